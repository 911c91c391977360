/- Parts of the proof of FlowDeep, put together from smaller texts (blanks that Lean does not want are struck). Conditions: those that each theorem writes out. -/
import Derived.BigQuiet
import Derived.Deep.QuietTactic
import Derived.Laws.Cover4
import Derived.Lib.CountLaws
import Derived.Lib.Hide
import Derived.Lib.MapLaws
import Derived.Lib.Replace
import Derived.Shelf.LaysC
import Derived.Shelf.LaysM
import Derived.Shelf.Small.Strs
import Derived.Shelf.Small.Utf8
import Derived.Shelf.Strconv.Clone
import Derived.Shelf.Strconv.SyntaxError
import Derived.Shelf.Strconv.ToError
import Derived.Shelf.Strings.AsciiSet
import Derived.Shelf.Strings.Builder1
import Derived.Shelf.Strings.BuilderF
import Derived.Shelf.Strings.BuilderK
import Derived.Shelf.Strings.BuilderRune
import Derived.Shelf.Strings.LastIndex
import Derived.Shelf.Strings.Prefix
import Derived.Shelf.Strings.Runes
import Derived.Shelf.Strings.Search1
import Derived.Shelf.Strings.Search2
import Derived.Shelf.Strings.Search3
import Derived.Shelf.Strings.Shaped
import Derived.Shelf.Strings.Trim
import Derived.Shelf.Unicode.DecodeSlow
import Derived.WalkKit
import Derived.WalkLawsBesides
import Derived.WalkSpells
import Derived.Test.YtncngeamdechmaaGreatDoorEFlowDeep0
import Derived.Test.YtncngeamdechmaaGreatDoorEFlowDeep1
import Derived.Test.YtncngeamdechmaaGreatDoorEFlowDeep2
import Derived.Test.YtncngeamdechmaaGreatDoorProg
import Derived.Test.YtncngeamdechmaaGreatDoorZ00
import Derived.Test.YtncngeamdechmaaGreatDoorZ01
import Derived.Test.YtncngeamdechmaaGreatDoorZ02
import Derived.Test.YtncngeamdechmaaGreatDoorZ05
import Derived.Test.YtncngeamdechmaaGreatDoorZ08
import Derived.Test.YtncngeamdechmaaGreatDoorZ15
namespace Go.Proofs.YtncngeamdechmaaGreatDoor
open Go.RowKit
attribute [local go_sem ↓] Go.wp_at_zero Go.wp_at_succ
set_option maxRecDepth 100000 in
set_option maxHeartbeats 6400000 in
theorem FlowDeep_walk {Ev:World→Prop} (K:FlowC Ev) (n deep:Int) (v2:Value) (bs:List Bool) (w:World) (hE:Ev w) (h0:IsBools w.heap.size w v2 bs) :
  Calls Tryz.prog 5 #[.int .i64 n,.int .i64 deep,v2] w fun e w'=>e=.returned (.bool true)∧Below w.heap.size w w':=by
 obtain ⟨ao0,cap0,rfl,c0,d0⟩:=h0.slice
 unfold maxLen at d0
 have hyr:=lowZ_range n 6 (by omega)
 have hzr:=lowZ_range deep 4 (by omega)
 obtain ⟨y,hy⟩:∃ y:Nat,lowZ n 6=(y:Int):=⟨(lowZ n 6).toNat,by omega⟩
 obtain ⟨z,hz⟩:∃ z:Nat,lowZ deep 4=(z:Int):=⟨(lowZ deep 4).toNat,by omega⟩
 have CY:=fun W=>Low_is (y:Int) n 6 W (by omega) (by omega) hy
 have CZ:=fun W=>Low_is (z:Int) deep 4 W (by omega) (by omega) hz
 rw[hy] at hyr
 rw[hz] at hzr
 clear hy hz
 go_enter Tryz.func5,Tryz.ntmps5
 go_wp2_with fail
 refine (CY _).mono ?_
 rintro e w1 ⟨rfl,rfl⟩
 go_wp2_with fail
 refine (CZ _).mono ?_
 rintro e w1 ⟨rfl,rfl⟩
 obtain ⟨kk,hkk⟩:∃ kk,kk=37+y:=⟨_,rfl⟩
 obtain ⟨BB,hBB⟩:∃ BB:List Bool,BB=(List.range kk).map fun i=>bs.getD i false:=⟨_,rfl⟩
 have hBl:BB.length=kk:=by rw[hBB];simp
 have hBd:∀ i,i<kk→BB.drop i=bs.getD i false :: BB.drop (i+1):=fun i hi=>by
  rw[List.drop_eq_getElem_cons (by rw[hBl];exact hi)]
  congr 1
  simp[hBB]
 have hBt:∀ i,i<kk→BB.take (i+1)=BB.take i++[bs.getD i false]:=fun i hi=>by
  rw[List.take_add_one,List.getElem?_eq_getElem (by rw[hBl];exact hi)]
  simp[hBB]
 have HBD:=Lib.hid hBd
 have HBT:=Lib.hid hBt
 have HBL:=Lib.hid hBl
 have hk2:(37:Int)+(y:Int)=(kk:Int):=by omega
 have hkk2:kk≤42:=by omega
 have hkk3:37≤kk:=by omega
 clear hBd hBt hBl hBB hkk CY CZ
 go_wp2
 go_loopw [9,10,11,12,13] (fun v9 v10 v11 v12 v13 wr=>∃ (S C:ByteArray) (m i:Nat) (want:Int),v9=.string S∧v10=.string C∧v11=.int .i64 (m:Int)∧v12=.int .i64 want∧v13=.int .i64 (i:Int)∧i≤kk∧m≤z+2*i∧S.size≤7*i∧C.size≤i∧Hid (S=mkB (openT (BB.take i)))∧Hid (C=mkB (List.replicate i 93))∧((want=-1∧Hid (deepF z 0 BB=deepF m S.size (BB.drop i)))∨(0≤want∧want≤1000∧Hid (deepF z 0 BB=some want.toNat)))∧wr=w) (fun _ _ _ _ v13 _=>kk-(intOf v13).toNat)
 case atStart=>exact ⟨⟨#[]⟩,⟨#[]⟩,z,0,-1,rfl,rfl,rfl,rfl,rfl,Nat.zero_le _,by omega,by decide,by decide,rfl,rfl,.inl ⟨rfl,rfl⟩,rfl⟩
 case round=>
  obtain ⟨S,C,m,i,want,rfl,rfl,rfl,rfl,rfl,hi,hm,hSz,hCz,HS,HC,hW,hwr⟩:=hrel
  obtain rfl:w=_:=hwr.symm
  by_cases hik:i<kk
  ·have eC:Hid ((⟨#[93]⟩:ByteArray)++C=mkB (List.replicate (i+1) 93)):=by
    show _=_
    rw[HC.out,List.replicate_succ]
    exact mkB_append [93] _
   have zC:((⟨#[93]⟩:ByteArray)++C).size≤i+1:=by rw[ByteArray.size_append];show 1+_≤_;omega
   have hdr:=HBD.out i hik
   have htk:=HBT.out i hik
   obtain ⟨b,hb⟩:∃ b,bs.getD i false=b:=⟨_,rfl⟩
   rw[hb] at hdr htk
   have ht0:Hid (b=false→S++(⟨#[91]⟩:ByteArray)=mkB (openT (BB.take (i+1)))):=by
    intro e
    rw[htk,open_app,HS.out,e]
    exact mkB_append _ [91]
   have ht1:Hid (b=true→S++(⟨#[91]⟩:ByteArray)++(⟨#[63,32,97,32,58,32]⟩:ByteArray)=mkB (openT (BB.take (i+1)))):=by
    intro e
    rw[htk,open_app,HS.out,e,show (⟨#[91]⟩:ByteArray)=mkB [91] from rfl,show (⟨#[63,32,97,32,58,32]⟩:ByteArray)=mkB [63,32,97,32,58,32] from rfl,mkB_append,mkB_append]
    simp
   have zS0:(S++(⟨#[91]⟩:ByteArray)).size=S.size+1:=by rw[ByteArray.size_append];rfl
   have zS1:(S++(⟨#[91]⟩:ByteArray)++(⟨#[63,32,97,32,58,32]⟩:ByteArray)).size=S.size+7:=by rw[ByteArray.size_append,zS0];rfl
   have hdp:Hid (∀ D,deepF z 0 BB=deepF m S.size (BB.drop i)→D=BB.drop (i+1)→deepF z 0 BB=if 40≤m then some S.size else if b=true then (if 40≤m+1 then some (S.size+1) else deepF (m+2) (S.size+7) D) else deepF (m+1) (S.size+1) D):=by
    intro D h1 h2
    rw[h1,hdr,h2]
    rfl
   clear hdr htk HS HC
   have hB:(i<bs.length∧∃ bb oo,ao0=some ⟨bb,oo,none⟩∧w.cell? ⟨bb,oo+i,none⟩=some (.bool b))∨(¬ i<bs.length∧b=false):=by
    by_cases hbl:i<bs.length
    ·obtain ⟨bb,oo,e,_,hcc⟩:=IsBools.at h0 rfl (by omega)
     have:=hcc i hbl
     rw[hb] at this
     exact .inl ⟨hbl,bb,oo,e,this⟩
    ·exact .inr ⟨hbl,by rw[←hb];simp[List.getD,List.getElem?_eq_none (show bs.length≤i by omega)]⟩
   clear hb
   rcases hW with ⟨rfl,hW2⟩|⟨hW0,hW1,hW2⟩
   ·rcases hB with ⟨hbl,bb,oo,rfl,g1⟩|⟨hbl,rfl⟩
    ·cases b with
     | true=>
      by_cases h40:40≤m
      ·have h40i:(40:Int)≤(m:Int):=by omega
       have q1:Hid (deepF z 0 BB=some ((S.size:Int)).toNat):=by
        have:=hdp.out _ hW2.out rfl
        rw[if_pos h40] at this
        rw[Int.toNat_natCast]
        exact this
       have h41:(40:Int)≤(m:Int)+1:=by omega
       go_wp2
       go_roundw
       case rel=>exact ⟨_,_,m+2,i+1,(S.size:Int),rfl,rfl,by go_num,rfl,by go_num,by omega,by omega,by rw[zS1];omega,zC,ht1.out rfl,eC,.inr ⟨by omega,by omega,q1⟩,trivial⟩
       case measure=>simp[intOf];omega
      ·by_cases h39:40≤m+1
       ·have h40i:¬ ((40:Int)≤(m:Int)):=by omega
        have h41:(40:Int)≤(m:Int)+1:=by omega
        have q1:Hid (deepF z 0 BB=some ((S.size:Int)+1).toNat):=by
         have:=hdp.out _ hW2.out rfl
         rw[if_neg h40,if_pos rfl,if_pos h39] at this
         rw[show ((S.size:Int)+1).toNat=S.size+1 by omega]
         exact this
        go_wp2
        go_roundw
        case rel=>exact ⟨_,_,m+2,i+1,(S.size:Int)+1,rfl,rfl,by go_num,rfl,by go_num,by omega,by omega,by rw[zS1];omega,zC,ht1.out rfl,eC,.inr ⟨by omega,by omega,q1⟩,trivial⟩
        case measure=>simp[intOf];omega
       ·have h40i:¬ ((40:Int)≤(m:Int)):=by omega
        have h41:¬ ((40:Int)≤(m:Int)+1):=by omega
        have q1:Hid (deepF z 0 BB=deepF (m+2) (S++(⟨#[91]⟩:ByteArray)++(⟨#[63,32,97,32,58,32]⟩:ByteArray)).size (BB.drop (i+1))):=by
         have:=hdp.out _ hW2.out rfl
         rw[if_neg h40,if_pos rfl,if_neg h39] at this
         rw[zS1]
         exact this
        go_wp2
        go_roundw
        case rel=>exact ⟨_,_,m+2,i+1,-1,rfl,rfl,by go_num,rfl,by go_num,by omega,by omega,by rw[zS1];omega,zC,ht1.out rfl,eC,.inl ⟨rfl,q1⟩,trivial⟩
        case measure=>simp[intOf];omega
     | false=>
      by_cases h40:40≤m
      ·have h40i:(40:Int)≤(m:Int):=by omega
       have q1:Hid (deepF z 0 BB=some ((S.size:Int)).toNat):=by
        have:=hdp.out _ hW2.out rfl
        rw[if_pos h40] at this
        rw[Int.toNat_natCast]
        exact this
       go_wp2
       go_roundw
       case rel=>exact ⟨_,_,m+1,i+1,(S.size:Int),rfl,rfl,by go_num,rfl,by go_num,by omega,by omega,by rw[zS0];omega,zC,ht0.out rfl,eC,.inr ⟨by omega,by omega,q1⟩,trivial⟩
       case measure=>simp[intOf];omega
      ·have h40i:¬ ((40:Int)≤(m:Int)):=by omega
       have q1:Hid (deepF z 0 BB=deepF (m+1) (S++(⟨#[91]⟩:ByteArray)).size (BB.drop (i+1))):=by
        have:=hdp.out _ hW2.out rfl
        rw[if_neg h40,if_neg (by decide)] at this
        rw[zS0]
        exact this
       go_wp2
       go_roundw
       case rel=>exact ⟨_,_,m+1,i+1,-1,rfl,rfl,by go_num,rfl,by go_num,by omega,by omega,by rw[zS0];omega,zC,ht0.out rfl,eC,.inl ⟨rfl,q1⟩,trivial⟩
       case measure=>simp[intOf];omega
    ·skip
     by_cases h40:40≤m
     ·have h40i:(40:Int)≤(m:Int):=by omega
      have q1:Hid (deepF z 0 BB=some ((S.size:Int)).toNat):=by
       have:=hdp.out _ hW2.out rfl
       rw[if_pos h40] at this
       rw[Int.toNat_natCast]
       exact this
      go_wp2
      go_roundw
      case rel=>exact ⟨_,_,m+1,i+1,(S.size:Int),rfl,rfl,by go_num,rfl,by go_num,by omega,by omega,by rw[zS0];omega,zC,ht0.out rfl,eC,.inr ⟨by omega,by omega,q1⟩,trivial⟩
      case measure=>simp[intOf];omega
     ·have h40i:¬ ((40:Int)≤(m:Int)):=by omega
      have q1:Hid (deepF z 0 BB=deepF (m+1) (S++(⟨#[91]⟩:ByteArray)).size (BB.drop (i+1))):=by
       have:=hdp.out _ hW2.out rfl
       rw[if_neg h40,if_neg (by decide)] at this
       rw[zS0]
       exact this
      go_wp2
      go_roundw
      case rel=>exact ⟨_,_,m+1,i+1,-1,rfl,rfl,by go_num,rfl,by go_num,by omega,by omega,by rw[zS0];omega,zC,ht0.out rfl,eC,.inl ⟨rfl,q1⟩,trivial⟩
      case measure=>simp[intOf];omega
   ·rcases hB with ⟨hbl,bb,oo,rfl,g1⟩|⟨hbl,rfl⟩
    ·cases b with
     | true=>
      by_cases h40:40≤m
      ·have h40i:(40:Int)≤(m:Int):=by omega
       have h41:(40:Int)≤(m:Int)+1:=by omega
       go_wp2
       go_roundw
       case rel=>exact ⟨_,_,m+2,i+1,want,rfl,rfl,by go_num,rfl,by go_num,by omega,by omega,by rw[zS1];omega,zC,ht1.out rfl,eC,.inr ⟨hW0,hW1,hW2⟩,trivial⟩
       case measure=>simp[intOf];omega
      ·by_cases h39:40≤m+1
       ·have h40i:¬ ((40:Int)≤(m:Int)):=by omega
        have h41:(40:Int)≤(m:Int)+1:=by omega
        go_wp2
        go_roundw
        case rel=>exact ⟨_,_,m+2,i+1,want,rfl,rfl,by go_num,rfl,by go_num,by omega,by omega,by rw[zS1];omega,zC,ht1.out rfl,eC,.inr ⟨hW0,hW1,hW2⟩,trivial⟩
        case measure=>simp[intOf];omega
       ·have h40i:¬ ((40:Int)≤(m:Int)):=by omega
        have h41:¬ ((40:Int)≤(m:Int)+1):=by omega
        go_wp2
        go_roundw
        case rel=>exact ⟨_,_,m+2,i+1,want,rfl,rfl,by go_num,rfl,by go_num,by omega,by omega,by rw[zS1];omega,zC,ht1.out rfl,eC,.inr ⟨hW0,hW1,hW2⟩,trivial⟩
        case measure=>simp[intOf];omega
     | false=>
      by_cases h40:40≤m
      ·have h40i:(40:Int)≤(m:Int):=by omega
       go_wp2
       go_roundw
       case rel=>exact ⟨_,_,m+1,i+1,want,rfl,rfl,by go_num,rfl,by go_num,by omega,by omega,by rw[zS0];omega,zC,ht0.out rfl,eC,.inr ⟨hW0,hW1,hW2⟩,trivial⟩
       case measure=>simp[intOf];omega
      ·have h40i:¬ ((40:Int)≤(m:Int)):=by omega
       go_wp2
       go_roundw
       case rel=>exact ⟨_,_,m+1,i+1,want,rfl,rfl,by go_num,rfl,by go_num,by omega,by omega,by rw[zS0];omega,zC,ht0.out rfl,eC,.inr ⟨hW0,hW1,hW2⟩,trivial⟩
       case measure=>simp[intOf];omega
    ·skip
     by_cases h40:40≤m
     ·have h40i:(40:Int)≤(m:Int):=by omega
      go_wp2
      go_roundw
      case rel=>exact ⟨_,_,m+1,i+1,want,rfl,rfl,by go_num,rfl,by go_num,by omega,by omega,by rw[zS0];omega,zC,ht0.out rfl,eC,.inr ⟨hW0,hW1,hW2⟩,trivial⟩
      case measure=>simp[intOf];omega
     ·have h40i:¬ ((40:Int)≤(m:Int)):=by omega
      go_wp2
      go_roundw
      case rel=>exact ⟨_,_,m+1,i+1,want,rfl,rfl,by go_num,rfl,by go_num,by omega,by omega,by rw[zS0];omega,zC,ht0.out rfl,eC,.inr ⟨hW0,hW1,hW2⟩,trivial⟩
      case measure=>simp[intOf];omega
  ·obtain rfl:kk=i:=by omega
   have hT:S++C=mkB (deepT BB):=by
    rw[HS.out,HC.out,open_deep,HBL.out,List.take_of_length_le (by rw[HBL.out];exact Nat.le_refl _)]
    exact mkB_append _ _
   have hD:=deep_text BB z (by intro e;have:=HBL.out;rw[e] at this;simp at this;omega) (by omega)
   rw[←hT] at hD
   have zT:(S++C).size=S.size+C.size:=ByteArray.size_append ..
   clear HS HC hT
   rcases hW with ⟨rfl,hW2⟩|⟨hW0,hW1,hW2⟩
   ·rw[hW2.out,List.drop_eq_nil_of_le (by rw[HBL.out];exact Nat.le_refl _)] at hD
    obtain ⟨x,fx⟩:∃ x,FlowZ (S++C) 0 (-1) (z:Int) (some x) ((S++C).size:Int) 0:=hD
    clear hW2
    go_wp2_with fail
    refine (K.read _ _ _ _ _ _ _ _ (by omega) hE fx).mono ?_
    rintro e w2 ⟨cx,rfl,ly,-,b2⟩
    obtain ⟨i1,i2,i3,i4,u1,u2,u3,a1,m1,d1,a2,m2,d2,a3,m3,d3,bo,u4,rfl⟩:=ly
    clear fx
    go_wp2_with fail
    have hb3:=b2.alloc b2.size (.cells #[.int .i64 i1,.int .i64 i2,.int .i64 i3,.int .i64 i4,.string u1,.string u2,.string u3,.slice a1 m1 d1,.slice a2 m2 d2,.slice a3 m3 d3,.bool bo,.string u4] 30)
    have hEu:=K.keep _ _ hE hb3
    refine (awake16_true K _ hEu).mono ?_
    rintro e w5 ⟨rfl,b5⟩
    go_wp2
    go_ret
    exact ⟨rfl,hb3.trans (b5.mono hb3.size)⟩
   ·rw[hW2.out] at hD
    clear hW2
    have hD:FlowZ (S++C) 0 (-1) (z:Int) none (want.toNat:Int) 6:=hD
    rw[show ((want.toNat:Nat):Int)=want by omega] at hD
    go_wp2_with fail
    refine (K.read _ _ _ _ _ _ _ _ (by omega) hE hD).mono ?_
    rintro e w2 ⟨cx,rfl,ly,-,b2⟩
    obtain ⟨i1,i2,i3,i4,u1,u2,u3,a1,m1,d1,a2,m2,d2,a3,m3,d3,bo,u4,rfl⟩:=ly
    clear hD
    go_wp2_with fail
    have hb3:=b2.alloc b2.size (.cells #[.int .i64 i1,.int .i64 i2,.int .i64 i3,.int .i64 i4,.string u1,.string u2,.string u3,.slice a1 m1 d1,.slice a2 m2 d2,.slice a3 m3 d3,.bool bo,.string u4] 30)
    have hEu:=K.keep _ _ hE hb3
    refine (awake16_true K _ hEu).mono ?_
    rintro e w5 ⟨rfl,b5⟩
    go_wp2
    go_ret
    exact ⟨rfl,hb3.trans (b5.mono hb3.size)⟩
end Go.Proofs.YtncngeamdechmaaGreatDoor

/- Parts of the proof of FlowNotes, put together from smaller texts (blanks that Lean does not want are struck). Conditions: those that each theorem writes out. -/
import Derived.Laws.Cover4
import Derived.Lib.CountLaws
import Derived.Lib.MapLaws
import Derived.Lib.Replace
import Derived.Shelf.LaysC
import Derived.Shelf.LaysM
import Derived.Shelf.Small.Strs
import Derived.Shelf.Small.Utf8
import Derived.Shelf.Strconv.Clone
import Derived.Shelf.Strconv.SyntaxError
import Derived.Shelf.Strconv.ToError
import Derived.Shelf.Strings.AsciiSet
import Derived.Shelf.Strings.Builder1
import Derived.Shelf.Strings.BuilderF
import Derived.Shelf.Strings.BuilderK
import Derived.Shelf.Strings.BuilderRune
import Derived.Shelf.Strings.LastIndex
import Derived.Shelf.Strings.Prefix
import Derived.Shelf.Strings.Runes
import Derived.Shelf.Strings.Search1
import Derived.Shelf.Strings.Search2
import Derived.Shelf.Strings.Search3
import Derived.Shelf.Strings.Shaped
import Derived.Shelf.Strings.Trim
import Derived.Shelf.Unicode.DecodeSlow
import Derived.Test.YtncngeamdechmaaGreatDoorEFlowNotes0
import Derived.Test.YtncngeamdechmaaGreatDoorEFlowNotes1
import Derived.Test.YtncngeamdechmaaGreatDoorEFlowNotes2
import Derived.Test.YtncngeamdechmaaGreatDoorProg
import Derived.Test.YtncngeamdechmaaGreatDoorZ00
import Derived.Test.YtncngeamdechmaaGreatDoorZ01
import Derived.Test.YtncngeamdechmaaGreatDoorZ02
import Derived.Test.YtncngeamdechmaaGreatDoorZ05
import Derived.Test.YtncngeamdechmaaGreatDoorZ08
import Derived.Test.YtncngeamdechmaaGreatDoorZ15
namespace Go.Proofs.YtncngeamdechmaaGreatDoor
open Go.RowKit
attribute [local go_sem ↓] Go.wp_at_zero Go.wp_at_succ
def pieceK (w:List UInt8) (k:Nat):List UInt8:=w++(preK.getD k []++(44 :: postK.getD k []))
def noteTab (W:ByteArray):Array Value:=#[.string (W++⟨#[44,32]⟩),.string (W++⟨#[32,35,32,116,10,44,32]⟩),.string (W++⟨#[44,32,35,32,116,10,32]⟩),.string (W++⟨#[44,10,35,32,108,10,32]⟩),.string (W++⟨#[10,35,32,108,10,32,44,32]⟩),.string (W++⟨#[32,35,32,116,10,32,35,32,108,10,44,32]⟩)]
theorem noteTab_at (wd:List UInt8) (k:Nat) (hk:k<6):(noteTab (mkB wd))[k]?=some (.string (mkB (pieceK wd k))):=by
 match k,hk with
 | 0,_|1,_|2,_|3,_|4,_|5,_=>exact congrArg (fun B=>some (Value.string B)) (mkB_append _ _)
theorem pieceK_len (wd:List UInt8) (k:Nat) (hk:k<6):(pieceK wd k).length≤wd.length+12:=by
 unfold pieceK
 rw[List.length_append]
 match k,hk with
 | 0,_|1,_|2,_|3,_|4,_|5,_=>exact Nat.add_le_add_left (by decide) _
set_option maxRecDepth 100000 in
set_option maxHeartbeats 6400000 in
theorem FlowNotes_walk {Ev:World→Prop} (K:FlowC Ev) (v0 v1:Value) (ks ls:List Int) (w:World) (hE:Ev w) (h0:IsInts .i64 w.heap.size w v0 ks) (h1:IsInts .i64 w.heap.size w v1 ls) :
  Calls Tryz.prog 6 #[v0,v1] w fun e w'=>e=.returned (.bool true)∧Below w.heap.size w w':=by
 obtain ⟨ao0,cap0,rfl,c0,d0⟩:=h0.slice
 obtain ⟨ao1,cap1,rfl,c1,d1⟩:=h1.slice
 unfold maxLen at d0 d1
 by_cases hl0:ks.length<1
 ·have hl2:(ks.length:Int)<1:=by omega
  clear h0 h1
  go_enter Tryz.func6,Tryz.ntmps6
  go_wp2_with fail
  refine (awake16_true K _ hE).mono ?_
  rintro e w5 ⟨rfl,b5⟩
  go_wp2
  go_ret
  exact ⟨rfl,b5⟩
 by_cases hl1:6<ks.length
 ·have hl2:(6:Int)<(ks.length:Int):=by omega
  have hl3:¬ ((ks.length:Int)<1):=by omega
  clear h0 h1
  go_enter Tryz.func6,Tryz.ntmps6
  go_wp2_with fail
  refine (awake16_true K _ hE).mono ?_
  rintro e w5 ⟨rfl,b5⟩
  go_wp2
  go_ret
  exact ⟨rfl,b5⟩
 obtain ⟨L,hL⟩:∃ L,L=ks.length:=⟨_,rfl⟩
 have HL:=Lib.hid hL
 rw[←hL] at h0 c0 hl0 hl1 ⊢
 clear hL
 have hl2:¬ ((L:Int)<1):=by omega
 have hl3:¬ ((6:Int)<(L:Int)):=by omega
 go_enter Tryz.func6,Tryz.ntmps6
 obtain ⟨WK,hWK⟩:∃ WK:List (List UInt8 × Nat),WK=(List.range L).map fun i=>(word (ks.getD i 0),(lowZ (ls.getD i 0) 6).toNat):=⟨_,rfl⟩
 have hWl:WK.length=L:=by rw[hWK];simp
 have hWm:∀ x∈WK,x.1∈wordL∧x.2<6:=by
  intro x hx
  rw[hWK] at hx
  obtain ⟨j,_,rfl⟩:=List.mem_map.1 hx
  have:=lowZ_range (ls.getD j 0) 6 (by omega)
  exact ⟨word_mem _,by show (lowZ (ls.getD j 0) 6).toNat<6;omega⟩
 have hWd:∀ i,i<L→WK.drop i=(word (ks.getD i 0),(lowZ (ls.getD i 0) 6).toNat) :: WK.drop (i+1):=fun i hi=>by
  rw[List.drop_eq_getElem_cons (by rw[hWl];exact hi)]
  congr 1
  simp[hWK]
 have HWL:=Lib.hid hWl
 have HWM:=Lib.hid hWm
 have HWD:=Lib.hid hWd
 have HWK:=Lib.hid hWK
 clear hWK hWl hWm hWd
 go_wp2
 go_loopw [5,6] (fun v5 v6 wr=>∃ (P:List UInt8) (S:ByteArray) (i:Nat),v5=.string S∧v6=.int .i64 (i:Int)∧i≤L∧S.size≤1+15*i∧Hid (S=mkB P)∧Hid (P++noteT (WK.drop i)=91 :: noteT WK)∧Below w.heap.size w wr) (fun _ v6 _=>L-(intOf v6).toNat)
 case atStart=>exact ⟨[91],_,0,rfl,rfl,Nat.zero_le _,by decide,rfl,rfl,Below.refl _ _⟩
 case round=>
  obtain ⟨P,S,i,rfl,rfl,hi,hSz,HS,HP,hb⟩:=hrel
  by_cases hik:i<L
  ·have hdr:=HWD.out i hik
   obtain ⟨wd,hwd⟩:∃ wd,word (ks.getD i 0)=wd:=⟨_,rfl⟩
   obtain ⟨y,hy⟩:∃ y,(lowZ (ls.getD i 0) 6).toNat=y:=⟨_,rfl⟩
   have hyr:=lowZ_range (ls.getD i 0) 6 (by omega)
   have hy6:y<6:=by omega
   have hyz:lowZ (ls.getD i 0) 6=(y:Int):=by omega
   rw[hwd,hy] at hdr
   have hwm:wd∈wordL:=by rw[←hwd];exact word_mem _
   have hwl:wd.length≤3:=tok_len _ (word_tok wd hwm).1
   obtain ⟨x,hx⟩:∃ x,ks.getD i 0=x:=⟨_,rfl⟩
   rw[hx] at hwd
   have CW:=fun Wd=>WordOf_is wd x Wd hwd
   obtain ⟨bb,oo,rfl,hlt,hcc⟩:=IsInts.at h0 HL.out.symm (by omega)
   have g1:=hcc i hik
   rw[hx,←hb.cell (p:=⟨bb,oo+i,none⟩) hlt] at g1
   have hpl:=pieceK_len wd y hy6
   obtain ⟨X,hX⟩:∃ X:ByteArray,mkB (pieceK wd y)=X:=⟨_,rfl⟩
   have hXz:X.size≤15:=by rw[←hX,mkB_size];omega
   have htab:=noteTab_at wd y hy6
   rw[hX] at htab
   have q1:Hid ((P++pieceK wd y)++noteT (WK.drop (i+1))=91 :: noteT WK):=by
    show _=_
    rw[←HP.out,hdr]
    show _=P++(wd++(preK.getD y []++(44 :: (postK.getD y []++noteT (WK.drop (i+1))))))
    unfold pieceK
    simp
   have e1:Hid (S++X=mkB (P++pieceK wd y)):=by show _=_;rw[HS.out,←hX];exact mkB_append _ _
   have HB:=Lib.hid hb
   have HG:=Lib.hid g1
   have HZ:=Lib.hid hyz
   have hWz:(mkB wd).size≤3:=by rw[mkB_size];exact hwl
   obtain ⟨WB,hWB⟩:∃ WB,mkB wd=WB:=⟨_,rfl⟩
   have CW2:∀ Wd:World,Calls Tryz.prog 12 #[.int .i64 x] Wd fun e w'=>e=.returned (.string WB)∧Below Wd.heap.size Wd w':=fun Wd=>by rw[←hWB];exact CW Wd
   rw[hWB] at htab hWz
   have HT:=Lib.hid htab
   clear hcc hdr hwd hy hyr hyz hwm hwl hx hpl hX htab HS HP g1 CW hWB
   go_upto_if 36 with fail
   go_cut [7] (fun v wx=>v=.int .i64 (y:Int)∧wx=wr)
   case first=>
    by_cases ha:i<ls.length
    ·obtain ⟨b2,o2,rfl,hlt2,hcc2⟩:=IsInts.at h1 rfl (by omega)
     have g2:=hcc2 i ha
     rw[←hb.cell (p:=⟨b2,o2+i,none⟩) hlt2] at g2
     obtain ⟨u,hu⟩:∃ u,ls.getD i 0=u:=⟨_,rfl⟩
     have hz2:=HZ.out
     rw[hu] at g2 hz2
     have CZ:=fun W=>Low_is (y:Int) u 6 W (by omega) (by omega) hz2
     clear hcc2 hu hz2
     go_wp2_with fail
     refine (CZ _).mono ?_
     rintro e w1 ⟨rfl,rfl⟩
     go_wp2
     go_meet
     case rel=>exact ⟨rfl,rfl⟩
    ·have hy0:(0:Int)=(y:Int):=by
      rw[←HZ.out]
      have:ls.getD i 0=0:=by simp[List.getD,List.getElem?_eq_none (show ls.length≤i by omega)]
      rw[this]
      rfl
     clear HZ
     go_wp2
     go_meet
     case rel=>exact ⟨by rw[hy0],rfl⟩
   case rest=>
    obtain ⟨rfl,rfl⟩:=hcut
    have g1:=HG.out
    go_wp2_with fail
    refine (CW2 _).mono ?_
    rintro e w5 ⟨rfl,b5⟩
    have hb5:=hb.trans (b5.mono hb.size)
    have htab:=HT.out
    have hyi:(y:Int)<6:=by omega
    have ht2:(w5.alloc (.cells (noteTab WB) 9)).cell? ⟨w5.heap.size,y,none⟩=some (.string X):=by rw[World.cell?_alloc_mark];exact htab
    unfold noteTab at ht2
    clear htab
    have hb6:=hb5.alloc hb5.size (.cells (noteTab WB) 9)
    unfold noteTab at hb6
    go_wp2
    go_roundw
    case rel=>exact ⟨_,_,i+1,rfl,by go_num,by omega,by rw[ByteArray.size_append];omega,e1,q1,hb6⟩
    case measure=>simp[intOf];omega
  ·obtain rfl:L=i:=by omega
   have eT:Hid (S++(⟨#[93]⟩:ByteArray)=mkB (91 :: noteT WK)):=by
    show _=_
    rw[←HP.out,List.drop_eq_nil_of_le (by rw[HWL.out];exact Nat.le_refl _),HS.out]
    exact mkB_append _ _
   obtain ⟨x,fx,ax⟩:=note_text WK (by intro e;have:=HWL.out;rw[e] at this;simp at this;omega) HWM.out
   rw[←eT.out] at fx
   have zT:(S++(⟨#[93]⟩:ByteArray)).size=S.size+1:=by rw[ByteArray.size_append];rfl
   have hEr:=K.keep _ _ hE hb
   clear HS HP eT
   go_wp2_with fail
   refine (K.read _ _ _ _ _ _ _ _ (by omega) hEr fx).mono ?_
   rintro e w2 ⟨cx,rfl,-,nx,b2⟩
   have hb3:=hb.trans (b2.mono hb.size)
   have hkl:x.kids.length=L:=by rw[areN.len _ _ _ _ ax,HWL.out]
   have AX:=Lib.hid ax
   obtain ⟨kv,lv,fv,rfl,⟨la,lc,rfl,-,-,-⟩,hfo,⟨ka,kc,rfl,kx1,kx2,kx3⟩⟩:=(nx x rfl).open
   have HFO:=Lib.hid hfo
   obtain ⟨fa,fc,rfl,fx1,fx2,fx3⟩:=hfo
   unfold maxLen at kx2 fx2
   rw[hkl] at kx1 kx3 ⊢
   have KX:=Lib.hid kx3
   have HKL:=Lib.hid hkl
   unfold headC
   generalize (⟨x.h.anchor.toArray⟩:ByteArray)=s1
   generalize (⟨x.h.tag.toArray⟩:ByteArray)=s2
   generalize (⟨x.h.text.toArray⟩:ByteArray)=s3
   generalize (⟨x.h.trail.toArray⟩:ByteArray)=s4
   clear kx3 nx fx ax fx3 hkl
   have r7:(w2.alloc (.cells #[.int .i64 x.h.kind,.int .i64 x.h.style,.int .i64 x.h.at',.int .i64 x.h.blank,.string s1,.string s2,.string s3,.slice ka L kc,.slice la x.h.lead.length lc,.slice fa x.h.foot.length fc,.bool x.h.ht,.string s4] 30)).cell? ⟨w2.heap.size,7,none⟩=some (.slice ka L kc):=World.cell?_alloc_mark ..
   have r9:(w2.alloc (.cells #[.int .i64 x.h.kind,.int .i64 x.h.style,.int .i64 x.h.at',.int .i64 x.h.blank,.string s1,.string s2,.string s3,.slice ka L kc,.slice la x.h.lead.length lc,.slice fa x.h.foot.length fc,.bool x.h.ht,.string s4] 30)).cell? ⟨w2.heap.size,9,none⟩=some (.slice fa x.h.foot.length fc):=World.cell?_alloc_mark ..
   have z2:Below w2.heap.size w2 (w2.alloc (.cells #[.int .i64 x.h.kind,.int .i64 x.h.style,.int .i64 x.h.at',.int .i64 x.h.blank,.string s1,.string s2,.string s3,.slice ka L kc,.slice la x.h.lead.length lc,.slice fa x.h.foot.length fc,.bool x.h.ht,.string s4] 30)):=(Below.refl _ _).alloc (Nat.le_refl _) _
   have z1:(w2.alloc (.cells #[.int .i64 x.h.kind,.int .i64 x.h.style,.int .i64 x.h.at',.int .i64 x.h.blank,.string s1,.string s2,.string s3,.slice ka L kc,.slice la x.h.lead.length lc,.slice fa x.h.foot.length fc,.bool x.h.ht,.string s4] 30)).heap.size=w2.heap.size+1:=by simp
   go_wp2
   obtain ⟨WX,hWX⟩:∃ WX:World,WX=w2.alloc (.cells #[.int .i64 x.h.kind,.int .i64 x.h.style,.int .i64 x.h.at',.int .i64 x.h.blank,.string s1,.string s2,.string s3,.slice ka L kc,.slice la x.h.lead.length lc,.slice fa x.h.foot.length fc,.bool x.h.ht,.string s4] 30):=⟨_,rfl⟩
   rw[←hWX] at r7 r9 z1 z2 ⊢
   clear hWX
   have hb4:=hb3.trans (z2.mono hb3.size)
   go_loopw [12] (fun v12 wr=>∃ k:Nat,v12=.int .i64 (k:Int)∧k≤L∧Below WX.heap.size WX wr) (fun v12 _=>L-(intOf v12).toNat)
   case atStart=>exact ⟨0,rfl,Nat.zero_le _,Below.refl _ _⟩
   case round=>
    obtain ⟨k,rfl,hk,hbr⟩:=hrel
    have hbw:=hb4.trans (hbr.mono hb4.size)
    have hb9:=z2.trans (hbr.mono (by omega))
    have z6:=hbr.size
    have r7':=(hbr.cell (p:=⟨w2.heap.size,7,none⟩) (by show w2.heap.size<_;omega)).trans r7
    have r9':=(hbr.cell (p:=⟨w2.heap.size,9,none⟩) (by show w2.heap.size<_;omega)).trans r9
    by_cases hkn:k<L
    ·obtain ⟨kb,ko,rfl,hkb,hkk⟩:=KX.out (by omega)
     have HKB:kb<w2.heap.size:=hkb
     have z7:w2.heap.size<wr.heap.size:=by omega
     have z8:kb<wr.heap.size:=by omega
     obtain ⟨y,hy⟩:∃ y,(lowZ (ls.getD k 0) 6).toNat=y:=⟨_,rfl⟩
     have hyr:=lowZ_range (ls.getD k 0) 6 (by omega)
     have hy6:y<6:=by omega
     have hyz:lowZ (ls.getD k 0) 6=(y:Int):=by omega
     have hj1:k<x.kids.length:=by rw[HKL.out];exact hkn
     have hj2:k<WK.length:=by rw[HWL.out];exact hkn
     obtain ⟨n1,n2,n3⟩:=areN.at _ _ _ _ k hj1 hj2 AX.out
     have hWy:(WK[k]'hj2).2=y:=by rw[←hy];simp[HWK.out]
     rw[hWy] at n1 n2 n3
     obtain ⟨p0,p1,p2,p3,p4,p5,p6,p7,p8,p9,p10,p11,hN,f0,f1,f2,f3,f4,f5,f6,f7,f8,f9,f10,f11⟩:=kid_cells hkk (j:=k) hj1
     obtain ⟨ka',la',fa',e2,⟨l2,lc2,rfl,-,-,-⟩,⟨fa2,fc2,rfl,-,-,-⟩,⟨ka2,kc2,rfl,-,-,-⟩⟩:=hN.open
     unfold headC at e2
     simp only[List.cons.injEq,and_true] at e2
     obtain ⟨rfl,rfl,rfl,rfl,rfl,rfl,rfl,rfl,rfl,rfl,rfl,rfl⟩:=e2
     rw[←hb9.cell (p:=⟨kb,_,none⟩) HKB] at f0 f1 f2 f3 f4 f5 f6 f7 f8 f9 f10 f11
     -- the comments behind it
     have hcm:∃ (Lc:Coms) (LV:Value),ComsR (Lo w2.heap.size) w2 LV Lc∧Lc.map (·.1)=(if lK y=true then [lkT] else [])∧((k+1<L∧wr.cell? ⟨kb,ko+(k+1)*12+8,none⟩=some LV)∨(¬ k+1<L∧LV=.slice fa x.h.foot.length fc)):=by
      by_cases h3:k+1<L
      ·have hj3:k+1<x.kids.length:=by rw[HKL.out];exact h3
       rw[dif_pos hj3] at n3
       obtain ⟨q0,q1,q2,q3,q4,q5,q6,q7,q8,q9,q10,q11,hN2,_,_,_,_,_,_,_,_,g8,_⟩:=kid_cells hkk (j:=k+1) hj3
       obtain ⟨a,b,c,e3,hco,_⟩:=hN2.open
       unfold headC at e3
       simp only[List.cons.injEq,and_true] at e3
       refine ⟨_,_,hco,n3,.inl ⟨h3,?_⟩⟩
       rw[hb9.cell (p:=⟨kb,_,none⟩) HKB,g8,e3.2.2.2.2.2.2.2.2.1]
      ·have hj3:¬ k+1<x.kids.length:=by rw[HKL.out];exact h3
       rw[dif_neg hj3] at n3
       exact ⟨_,_,HFO.out,n3,.inr ⟨h3,rfl⟩⟩
     obtain ⟨Lc,LV,hLV,hLm,hLd⟩:=hcm
     have HLV:=Lib.hid hLV
     have HLM:=Lib.hid hLm
     have HLD:=Lib.hid hLd
     have HN1:=Lib.hid n1
     have HN2:=Lib.hid n2
     have HZ:=Lib.hid hyz
     clear hLV hLm hLd n1 n2 n3 hN hkk hy hyr hyz hWy KX AX HFO r7 r9 hkb
     go_upto_if 98 with fail
     go_cut [13] (fun v wx=>v=.int .i64 (y:Int)∧wx=wr)
     case first=>
      by_cases ha:k<ls.length
      ·obtain ⟨b2,o2,rfl,hlt2,hcc2⟩:=IsInts.at h1 rfl (by omega)
       have g2:=hcc2 k ha
       rw[←hbw.cell (p:=⟨b2,o2+k,none⟩) hlt2] at g2
       obtain ⟨u,hu⟩:∃ u,ls.getD k 0=u:=⟨_,rfl⟩
       have hz2:=HZ.out
       rw[hu] at g2 hz2
       have CZ:=fun W=>Low_is (y:Int) u 6 W (by omega) (by omega) hz2
       clear hcc2 hu hz2
       go_wp2_with fail
       refine (CZ _).mono ?_
       rintro e w1 ⟨rfl,rfl⟩
       go_wp2
       go_meet
       case rel=>exact ⟨rfl,rfl⟩
      ·have hy0:(0:Int)=(y:Int):=by
        rw[←HZ.out]
        have:ls.getD k 0=0:=by simp[List.getD,List.getElem?_eq_none (show ls.length≤k by omega)]
        rw[this]
        rfl
       clear HZ
       go_wp2
       go_meet
       case rel=>exact ⟨by rw[hy0],rfl⟩
     case rest=>
      obtain ⟨rfl,rfl⟩:=hcut
      go_upto_if 115 with fail
      obtain ⟨WZ,hWZ⟩:∃ WZ:World,WZ=wc.alloc (.cells #[.int .i64 (x.kids[k]'hj1).h.kind,.int .i64 (x.kids[k]'hj1).h.style,.int .i64 (x.kids[k]'hj1).h.at',.int .i64 (x.kids[k]'hj1).h.blank,.string ⟨(x.kids[k]'hj1).h.anchor.toArray⟩,.string ⟨(x.kids[k]'hj1).h.tag.toArray⟩,.string ⟨(x.kids[k]'hj1).h.text.toArray⟩,.slice ka2 (x.kids[k]'hj1).kids.length kc2,.slice l2 (x.kids[k]'hj1).h.lead.length lc2,.slice fa2 (x.kids[k]'hj1).h.foot.length fc2,.bool (x.kids[k]'hj1).h.ht,.string ⟨(x.kids[k]'hj1).h.trail.toArray⟩] 30):=⟨_,rfl⟩
      have c10:WZ.cell? ⟨wc.heap.size,10,none⟩=some (.bool (x.kids[k]'hj1).h.ht):=by rw[hWZ];exact World.cell?_alloc_mark ..
      have c11:WZ.cell? ⟨wc.heap.size,11,none⟩=some (.string ⟨(x.kids[k]'hj1).h.trail.toArray⟩):=by rw[hWZ];exact World.cell?_alloc_mark ..
      have zb:Below wc.heap.size wc WZ:=by rw[hWZ];exact (Below.refl _ _).alloc (Nat.le_refl _) _
      rw[←hWZ]
      clear hWZ f0 f1 f2 f3 f4 f5 f6 f7 f8 f9 f10 f11
      have r7'':=(zb.cell (p:=⟨w2.heap.size,7,none⟩) z7).trans r7'
      have hbz:=hbr.trans (zb.mono (by omega))
      go_cut [15] (fun v wx=>v=LV∧wx=WZ)
      case first=>
       rcases HLD.out with ⟨h3,g8⟩|⟨h3,g8⟩
       ·have h3i:(k:Int)+1<(L:Int):=by omega
        have g9:=(zb.cell (p:=⟨kb,ko+(k+1)*12+8,none⟩) z8).trans g8
        obtain ⟨la3,lc3,e3,-,-,-⟩:=HLV.out
        subst e3
        clear g8 HLV HLM HLD HN1 HN2
        go_wp2
        go_meet
        case rel=>exact ⟨rfl,rfl⟩
       ·have h3i:¬ ((k:Int)+1<(L:Int)):=by omega
        have HG:=Lib.hid g8
        clear g8 HLV HLM HLD HN1 HN2
        go_wp2
        go_meet
        case rel=>exact ⟨HG.out.symm,rfl⟩
      case rest=>
       obtain ⟨hv,hw⟩:=hcut
       subst hv
       obtain rfl:WZ=_:=hw.symm
       obtain ⟨la3,lc3,rfl,q1,q2,q3⟩:=HLV.out
       unfold maxLen at q2
       clear HLD
       match y,hy6 with
       | 0,_=>
        have m1:Lc=[]:=List.map_eq_nil_iff.1 HLM.out
        subst m1
        have d0:(x.kids[k]'hj1).h.ht=false:=HN1.out
        rw[d0] at c10
        clear c11
        clear d0 HN1 HN2 HLM HLV q3
        go_wp2
        go_roundw
        case rel=>exact ⟨k+1,by go_num,by omega,hbz⟩
        case measure=>simp[intOf];omega
       | 1,_=>
        have m1:Lc=[]:=List.map_eq_nil_iff.1 HLM.out
        subst m1
        have d0:(x.kids[k]'hj1).h.ht=true:=HN1.out
        rw[d0] at c10
        have d1:(x.kids[k]'hj1).h.trail=tkT:=HN2.out rfl
        rw[d1] at c11
        have c12:WZ.cell? ⟨wc.heap.size,11,none⟩=some (.string ⟨#[32,116]⟩):=c11
        clear c11 d1
        clear d0 HN1 HN2 HLM HLV q3
        go_wp2
        go_roundw
        case rel=>exact ⟨k+1,by go_num,by omega,hbz⟩
        case measure=>simp[intOf];omega
       | 2,_=>
        have m1:Lc=[]:=List.map_eq_nil_iff.1 HLM.out
        subst m1
        have d0:(x.kids[k]'hj1).h.ht=true:=HN1.out
        rw[d0] at c10
        have d1:(x.kids[k]'hj1).h.trail=tkT:=HN2.out rfl
        rw[d1] at c11
        have c12:WZ.cell? ⟨wc.heap.size,11,none⟩=some (.string ⟨#[32,116]⟩):=c11
        clear c11 d1
        clear d0 HN1 HN2 HLM HLV q3
        go_wp2
        go_roundw
        case rel=>exact ⟨k+1,by go_num,by omega,hbz⟩
        case measure=>simp[intOf];omega
       | 3,_=>
        obtain ⟨a,L',rfl,g3,g4⟩:=List.map_eq_cons_iff.1 (show Lc.map (·.1)=lkT :: [] from HLM.out)
        have m1:L'=[]:=List.map_eq_nil_iff.1 g4
        subst m1
        obtain ⟨lb,lo,rfl,hlb,hlc⟩:=q3 (by show 0<1;decide)
        have hlb:lb<w2.heap.size:=hlb
        have c13:=(hlc 0 (by show 0<1;decide)).1
        have c14:w2.cell? ⟨lb,lo,none⟩=some (.string ⟨#[32,108]⟩):=by
         have e:comT [a] 0=[32,108]:=g3
         rw[e] at c13
         simpa using c13
        have c15:=(zb.cell (p:=⟨lb,lo,none⟩) (by show lb<_;omega)).trans ((hb9.cell (p:=⟨lb,lo,none⟩) hlb).trans c14)
        have d0:(x.kids[k]'hj1).h.ht=false:=HN1.out
        rw[d0] at c10
        clear c11
        clear d0 HN1 HN2 HLM HLV q3 c13 c14 hlc g3 g4
        go_wp2
        go_roundw
        case rel=>exact ⟨k+1,by go_num,by omega,hbz⟩
        case measure=>simp[intOf];omega
       | 4,_=>
        obtain ⟨a,L',rfl,g3,g4⟩:=List.map_eq_cons_iff.1 (show Lc.map (·.1)=lkT :: [] from HLM.out)
        have m1:L'=[]:=List.map_eq_nil_iff.1 g4
        subst m1
        obtain ⟨lb,lo,rfl,hlb,hlc⟩:=q3 (by show 0<1;decide)
        have hlb:lb<w2.heap.size:=hlb
        have c13:=(hlc 0 (by show 0<1;decide)).1
        have c14:w2.cell? ⟨lb,lo,none⟩=some (.string ⟨#[32,108]⟩):=by
         have e:comT [a] 0=[32,108]:=g3
         rw[e] at c13
         simpa using c13
        have c15:=(zb.cell (p:=⟨lb,lo,none⟩) (by show lb<_;omega)).trans ((hb9.cell (p:=⟨lb,lo,none⟩) hlb).trans c14)
        have d0:(x.kids[k]'hj1).h.ht=false:=HN1.out
        rw[d0] at c10
        clear c11
        clear d0 HN1 HN2 HLM HLV q3 c13 c14 hlc g3 g4
        go_wp2
        go_roundw
        case rel=>exact ⟨k+1,by go_num,by omega,hbz⟩
        case measure=>simp[intOf];omega
       | 5,_=>
        obtain ⟨a,L',rfl,g3,g4⟩:=List.map_eq_cons_iff.1 (show Lc.map (·.1)=lkT :: [] from HLM.out)
        have m1:L'=[]:=List.map_eq_nil_iff.1 g4
        subst m1
        obtain ⟨lb,lo,rfl,hlb,hlc⟩:=q3 (by show 0<1;decide)
        have hlb:lb<w2.heap.size:=hlb
        have c13:=(hlc 0 (by show 0<1;decide)).1
        have c14:w2.cell? ⟨lb,lo,none⟩=some (.string ⟨#[32,108]⟩):=by
         have e:comT [a] 0=[32,108]:=g3
         rw[e] at c13
         simpa using c13
        have c15:=(zb.cell (p:=⟨lb,lo,none⟩) (by show lb<_;omega)).trans ((hb9.cell (p:=⟨lb,lo,none⟩) hlb).trans c14)
        have d0:(x.kids[k]'hj1).h.ht=true:=HN1.out
        rw[d0] at c10
        have d1:(x.kids[k]'hj1).h.trail=tkT:=HN2.out rfl
        rw[d1] at c11
        have c12:WZ.cell? ⟨wc.heap.size,11,none⟩=some (.string ⟨#[32,116]⟩):=c11
        clear c11 d1
        clear d0 HN1 HN2 HLM HLV q3 c13 c14 hlc g3 g4
        go_wp2
        go_roundw
        case rel=>exact ⟨k+1,by go_num,by omega,hbz⟩
        case measure=>simp[intOf];omega
    ·obtain rfl:L=k:=by omega
     obtain ⟨kb,ko,rfl,hkb,hkk⟩:=KX.out (by omega)
     have HKB:kb<w2.heap.size:=hkb
     have z7:w2.heap.size<wr.heap.size:=by omega
     have z8:kb<wr.heap.size:=by omega
     have hj0:0<x.kids.length:=by rw[HKL.out];omega
     have hle:=List.map_eq_nil_iff.1 (areN.first _ _ _ _ hj0 AX.out)
     obtain ⟨p0,p1,p2,p3,p4,p5,p6,p7,p8,p9,p10,p11,hN,f0,f1,f2,f3,f4,f5,f6,f7,f8,f9,f10,f11⟩:=kid_cells hkk (j:=0) hj0
     obtain ⟨ka',la',fa',e2,⟨l2,lc2,rfl,-,-,-⟩,-⟩:=hN.open
     unfold headC at e2
     simp only[List.cons.injEq,and_true] at e2
     have e8:=e2.2.2.2.2.2.2.2.2.1
     rw[e8,hle,←hb9.cell (p:=⟨kb,_,none⟩) HKB] at f8
     have f8':wr.cell? ⟨kb,ko+8,none⟩=some (.slice l2 0 lc2):=by simpa using f8
     have hEu:=K.keep _ _ hE hbw
     clear f0 f1 f2 f3 f4 f5 f6 f7 f8 f9 f10 f11 e2 e8 hN hkk hle AX KX HFO hkb
     go_wp2_with fail
     refine (awake16_true K _ hEu).mono ?_
     rintro e w5 ⟨rfl,b5⟩
     go_wp2
     go_ret
     exact ⟨rfl,hbw.trans (b5.mono hbw.size)⟩
end Go.Proofs.YtncngeamdechmaaGreatDoor

/- Parts of the proof of FlowWords, put together from smaller texts (blanks that Lean does not want are struck). Conditions: those that each theorem writes out. -/
import Derived.Test.YtncngeamdechmaaGreatDoorEFlowWords2
import Derived.Test.YtncngeamdechmaaGreatDoorZ15
import Derived.Test.YtncngeamdechmaaGreatDoorZ33
namespace Go.Proofs.YtncngeamdechmaaGreatDoor
open Go.RowKit
attribute [local go_sem ↓] Go.wp_at_zero Go.wp_at_succ
theorem kids_text {B:Nat} {w:World} {v:Value} {ts:List NT} {ws:List (List UInt8)} (h:NodesR (Lo B) w v ts) (ha:areW ts ws) :
  ∃ ao cap,v=.slice ao ws.length cap∧ws.length≤cap∧cap≤maxLen∧(0<ws.length→∃ b o,ao=some ⟨b,o,none⟩∧b<B∧∀ j,j<ws.length→w.cell? ⟨b,o+j*12+6,none⟩=some (.string ⟨(ws.getD j []).toArray⟩)∧w.cell? ⟨b,o+j*12+1,none⟩=some (.int .i64 1)):=by
 obtain ⟨ao,cap,rfl,h1,h2,h3⟩:=h
 have hl:=areW.len _ _ ha
 rw[hl] at h1 h3
 refine ⟨ao,cap,by rw[hl],h1,h2,fun hp=>?_⟩
 obtain ⟨b,o,e,hb,hk⟩:=h3 hp
 refine ⟨b,o,e,hb,fun j hj=>?_⟩
 have hj2:j<ts.length:=by omega
 have hw:=areW.at ts ws j hj2 hj ha
 obtain ⟨p0,p1,p2,p3,p4,p5,p6,p7,p8,p9,p10,p11,hN,f0,f1,f2,f3,f4,f5,f6,_⟩:=kid_cells hk (j:=j) hj2
 obtain ⟨a',b',c',e2,_⟩:=hN.open
 unfold headC at e2
 simp only[List.cons.injEq] at e2
 have hg:ws.getD j []=ws[j]:=by simp[List.getD,List.getElem?_eq_getElem hj]
 exact ⟨by rw[f6,e2.2.2.2.2.2.2.1,hw.1,hg],by rw[f1,e2.2.1,hw.2]⟩
theorem twice_len:∀ W:List (List UInt8),(twice W).length=2*W.length
 | []=>rfl
 | w :: t=>by
  unfold twice
  rw[List.length_cons,List.length_cons,List.length_cons,twice_len t]
  omega
theorem twice_at:∀ (W:List (List UInt8)) (j:Nat),(twice W).getD (2*j) []=W.getD j []∧(twice W).getD (2*j+1) []=W.getD j []
 | [],j=>⟨by simp[twice],by simp[twice]⟩
 | w :: t,0=>⟨rfl,rfl⟩
 | w :: t,j+1=>by
  unfold twice
  rw[show 2*(j+1)=2*j+1+1 by omega]
  simp only[List.getD_cons_succ]
  exact twice_at t j
set_option maxRecDepth 100000 in
set_option maxHeartbeats 6400000 in
theorem FlowWords_walk {Ev:World→Prop} (K:FlowC Ev) (v0:Value) (ks:List Int) (more:Bool) (w:World) (hE:Ev w) (h0:IsInts .i64 w.heap.size w v0 ks) :
  Calls Tryz.prog 4 #[v0,.bool more] w fun e w'=>e=.returned (.bool true)∧Below w.heap.size w w':=by
 obtain ⟨ao0,cap0,rfl,c0,d0⟩:=h0.slice
 unfold maxLen at d0
 by_cases hl1:10<ks.length
 ·have hl2:(10:Int)<(ks.length:Int):=by omega
  clear h0
  go_enter Tryz.func4,Tryz.ntmps4
  go_wp2_with fail
  refine (awake16_true K _ hE).mono ?_
  rintro e w5 ⟨rfl,b5⟩
  go_wp2
  go_ret
  exact ⟨rfl,b5⟩
 go_enter Tryz.func4,Tryz.ntmps4
 obtain ⟨W,hW⟩:∃ W:List (List UInt8),W=ks.map word:=⟨_,rfl⟩
 have hWm:∀ x∈W,x∈wordL:=by
  intro x hx
  rw[hW] at hx
  obtain ⟨k,_,rfl⟩:=List.mem_map.1 hx
  exact word_mem k
 obtain ⟨L,hL⟩:∃ L,L=ks.length:=⟨_,rfl⟩
 have hWL:W.length=L:=by rw[hW,List.length_map,hL]
 have HL:=Lib.hid hL
 have HW:=Lib.hid hW
 have HM:=Lib.hid hWm
 have HWL:=Lib.hid hWL
 rw[←hL] at h0 c0 hl1 ⊢
 clear hL hW hWm hWL
 go_wp2
 go_loopw [5,6,7] (fun v5 v6 v7 wr=>∃ (P Q:List UInt8) (PB QB:ByteArray) (k:Nat),v5=.string PB∧v6=.string QB∧v7=.int .i64 (k:Int)∧k≤L∧PB.size≤1+5*k∧QB.size≤1+9*k∧Hid (PB=mkB P)∧Hid (QB=mkB Q)∧Hid (P++listW more (W.drop k)=91 :: listW more W)∧Hid (Q++mapW more (W.drop k)=123 :: mapW more W)∧Below w.heap.size w wr) (fun _ _ v7 _=>L-(intOf v7).toNat)
 case atStart=>exact ⟨[91],[123],_,_,0,rfl,rfl,rfl,Nat.zero_le _,by decide,by decide,rfl,rfl,rfl,rfl,Below.refl _ _⟩
 case round=>
  obtain ⟨P,Q,PB,QB,k,rfl,rfl,rfl,hk,hPz,hQz,HP,HQ,HPR,HQR,hb⟩:=hrel
  by_cases hkn:k<L
  ·obtain ⟨bb,oo,rfl,hlt,hcc⟩:=IsInts.at h0 HL.out.symm (by omega)
   have g1:=hcc k hkn
   rw[←hb.cell (p:=⟨bb,oo+k,none⟩) hlt] at g1
   obtain ⟨x,hx⟩:∃ x,x=ks.getD k 0:=⟨_,rfl⟩
   rw[←hx] at g1
   obtain ⟨wd,hwd⟩:∃ wd,word x=wd:=⟨_,rfl⟩
   have hdr:W.drop k=wd :: W.drop (k+1):=by
    rw[List.drop_eq_getElem_cons (by rw[HWL.out];exact hkn)]
    congr 1
    rw[←hwd,hx]
    simp[HW.out,List.getD,List.getElem?_eq_getElem (show k<ks.length by rw[←HL.out];exact hkn)]
   have hwm:wd∈wordL:=by rw[←hwd];exact word_mem x
   obtain ⟨WB,hWB⟩:∃ WB:ByteArray,(⟨wd.toArray⟩:ByteArray)=WB:=⟨_,rfl⟩
   have hWz:WB.size≤3:=by rw[←hWB,size_mk];exact tok_len _ (word_tok wd hwm).1
   have CW:=fun Wd=>WordOf_is wd x Wd hwd
   rw[hWB] at CW
   have e1:Hid (PB++WB=mkB (P++wd)):=by show _=_;rw[HP.out,←hWB];exact mkB_append _ _
   have e2:Hid (QB++WB++(⟨#[58,32]⟩:ByteArray)++WB=mkB (Q++wd++[58,32]++wd)):=by
    show _=_
    rw[HQ.out,←hWB,show (⟨#[58,32]⟩:ByteArray)=mkB [58,32] from rfl,show (⟨wd.toArray⟩:ByteArray)=mkB wd from rfl,mkB_append,mkB_append,mkB_append]
   have r1:Hid (P++wd++((if W.drop (k+1)≠[]∨more=true then [44,32] else [])++listW more (W.drop (k+1)))=91 :: listW more W):=by
    show _=_
    rw[←HPR.out,hdr,List.append_assoc]
    rfl
   have r2:Hid (Q++wd++[58,32]++wd++((if W.drop (k+1)≠[]∨more=true then [44] else [])++mapW more (W.drop (k+1)))=123 :: mapW more W):=by
    show _=_
    rw[←HQR.out,hdr,List.append_assoc,List.append_assoc,List.append_assoc]
    rfl
   have hne:W.drop (k+1)≠[]↔k+1<L:=by
    rw[←HWL.out]
    constructor
    ·intro h
     refine Decidable.byContradiction fun hc=>h (List.drop_eq_nil_of_le (by omega))
    ·intro h e
     have:=List.drop_eq_nil_iff.1 e
     omega
   have HNE:=Lib.hid hne
   have hs1:¬ (9223372036854775807<PB.size+WB.size):=by omega
   have hs2:¬ (9223372036854775807<QB.size+WB.size):=by omega
   have hs3:¬ (9223372036854775807<QB.size+WB.size+2):=by omega
   have hs4:¬ (9223372036854775807<QB.size+WB.size+2+WB.size):=by omega
   clear hcc hx hdr hwm hwd hWB HP HQ HPR HQR hne
   go_wp2_with fail
   refine (CW _).mono ?_
   rintro e w5 ⟨rfl,b5⟩
   have hb5:=hb.trans (b5.mono hb.size)
   cases more with
   | true=>
    have q1:Hid ((P++wd++[44,32])++listW true (W.drop (k+1))=91 :: listW true W):=by
     have:=r1.out
     rw[if_pos (.inr rfl),←List.append_assoc] at this
     exact this
    have q2:Hid ((Q++wd++[58,32]++wd++[44])++mapW true (W.drop (k+1))=123 :: mapW true W):=by
     have:=r2.out
     rw[if_pos (.inr rfl),←List.append_assoc] at this
     exact this
    have e3:Hid (PB++WB++(⟨#[44,32]⟩:ByteArray)=mkB (P++wd++[44,32])):=by show _=_;rw[e1.out];exact mkB_append _ _
    have e4:Hid (QB++WB++(⟨#[58,32]⟩:ByteArray)++WB++(⟨#[44]⟩:ByteArray)=mkB (Q++wd++[58,32]++wd++[44])):=by show _=_;rw[e2.out];exact mkB_append _ _
    by_cases hk1:k+1<L
    ·have hki:(k:Int)<(L:Int)-1:=by omega
     go_wp2
     go_roundw
     case rel=>exact ⟨_,_,_,_,k+1,rfl,rfl,by go_num,by omega,by rw[ByteArray.size_append,ByteArray.size_append];show _+2≤_;omega,by rw[ByteArray.size_append,ByteArray.size_append,ByteArray.size_append,ByteArray.size_append];show _+2+_+1≤_;omega,e3,e4,q1,q2,hb5⟩
     case measure=>simp[intOf];omega
    ·have hki:¬ ((k:Int)<(L:Int)-1):=by omega
     go_wp2
     go_roundw
     case rel=>exact ⟨_,_,_,_,k+1,rfl,rfl,by go_num,by omega,by rw[ByteArray.size_append,ByteArray.size_append];show _+2≤_;omega,by rw[ByteArray.size_append,ByteArray.size_append,ByteArray.size_append,ByteArray.size_append];show _+2+_+1≤_;omega,e3,e4,q1,q2,hb5⟩
     case measure=>simp[intOf];omega
   | false=>
    by_cases hk1:k+1<L
    ·have q1:Hid ((P++wd++[44,32])++listW false (W.drop (k+1))=91 :: listW false W):=by
      have:=r1.out
      rw[if_pos (.inl (HNE.out.2 hk1)),←List.append_assoc] at this
      exact this
     have q2:Hid ((Q++wd++[58,32]++wd++[44])++mapW false (W.drop (k+1))=123 :: mapW false W):=by
      have:=r2.out
      rw[if_pos (.inl (HNE.out.2 hk1)),←List.append_assoc] at this
      exact this
     have e3:Hid (PB++WB++(⟨#[44,32]⟩:ByteArray)=mkB (P++wd++[44,32])):=by show _=_;rw[e1.out];exact mkB_append _ _
     have e4:Hid (QB++WB++(⟨#[58,32]⟩:ByteArray)++WB++(⟨#[44]⟩:ByteArray)=mkB (Q++wd++[58,32]++wd++[44])):=by show _=_;rw[e2.out];exact mkB_append _ _
     have hki:(k:Int)<(L:Int)-1:=by omega
     go_wp2
     go_roundw
     case rel=>exact ⟨_,_,_,_,k+1,rfl,rfl,by go_num,by omega,by rw[ByteArray.size_append,ByteArray.size_append];show _+2≤_;omega,by rw[ByteArray.size_append,ByteArray.size_append,ByteArray.size_append,ByteArray.size_append];show _+2+_+1≤_;omega,e3,e4,q1,q2,hb5⟩
     case measure=>simp[intOf];omega
    ·have hki:¬ ((k:Int)<(L:Int)-1):=by omega
     have hcn:¬ (W.drop (k+1)≠[]∨false=true):=by
      rintro (h|h)
      ·exact hk1 (HNE.out.1 h)
      ·cases h
     have q1:Hid ((P++wd)++listW false (W.drop (k+1))=91 :: listW false W):=by
      have:=r1.out
      rw[if_neg hcn] at this
      exact this
     have q2:Hid ((Q++wd++[58,32]++wd)++mapW false (W.drop (k+1))=123 :: mapW false W):=by
      have:=r2.out
      rw[if_neg hcn] at this
      exact this
     clear hcn
     go_wp2
     go_roundw
     case rel=>exact ⟨_,_,_,_,k+1,rfl,rfl,by go_num,by omega,by rw[ByteArray.size_append];omega,by rw[ByteArray.size_append,ByteArray.size_append,ByteArray.size_append];show _+2+_≤_;omega,e1,e2,q1,q2,hb5⟩
     case measure=>simp[intOf];omega
  ·obtain rfl:L=k:=by omega
   have eP:Hid (PB++(⟨#[93]⟩:ByteArray)=mkB (91 :: listW more W)):=by
    show _=_
    rw[←HPR.out,List.drop_eq_nil_of_le (by rw[HWL.out];exact Nat.le_refl _),HP.out]
    exact mkB_append _ _
   have eQ:Hid (QB++(⟨#[125]⟩:ByteArray)=mkB (123 :: mapW more W)):=by
    show _=_
    rw[←HQR.out,List.drop_eq_nil_of_le (by rw[HWL.out];exact Nat.le_refl _),HQ.out]
    exact mkB_append _ _
   obtain ⟨x,fx,ax⟩:=list_text more W HM.out
   obtain ⟨y,fy,ay⟩:=map_text more W HM.out
   rw[←eP.out] at fx
   rw[←eQ.out] at fy
   have lx:=areW.len _ _ ax
   have ly:=areW.len _ _ ay
   have zP:(PB++(⟨#[93]⟩:ByteArray)).size=PB.size+1:=by rw[ByteArray.size_append];rfl
   have zQ:(QB++(⟨#[125]⟩:ByteArray)).size=QB.size+1:=by rw[ByteArray.size_append];rfl
   have hEr:=K.keep _ _ hE hb
   clear HP HQ HPR HQR eP eQ
   go_wp2_with fail
   refine (K.read _ _ _ _ _ _ _ _ (by omega) hEr fx).mono ?_
   rintro e w2 ⟨cx,rfl,-,nx,b2⟩
   have hb3:=hb.trans (b2.mono hb.size)
   obtain ⟨kv,lv,fv,rfl,⟨la,lc,rfl,-,-,-⟩,⟨fa,fc,rfl,-,-,-⟩,nk⟩:=(nx x rfl).open
   obtain ⟨ka,kc,rfl,kx1,kx2,kx3⟩:=kids_text nk ax
   unfold maxLen at kx2
   rw[HWL.out] at kx1 kx3 ⊢
   have KX:=Lib.hid kx3
   unfold headC
   generalize (⟨x.h.anchor.toArray⟩:ByteArray)=s1
   generalize (⟨x.h.tag.toArray⟩:ByteArray)=s2
   generalize (⟨x.h.text.toArray⟩:ByteArray)=s3
   generalize (⟨x.h.trail.toArray⟩:ByteArray)=s4
   clear kx3 nk nx fx ax lx
   go_wp2_with fail
   obtain ⟨WX,hWX⟩:∃ WX:World,WX=w2.alloc (.cells #[.int .i64 x.h.kind,.int .i64 x.h.style,.int .i64 x.h.at',.int .i64 x.h.blank,.string s1,.string s2,.string s3,.slice ka L kc,.slice la x.h.lead.length lc,.slice fa x.h.foot.length fc,.bool x.h.ht,.string s4] 30):=⟨_,rfl⟩
   have r7:WX.cell? ⟨w2.heap.size,7,none⟩=some (.slice ka L kc):=by rw[hWX];exact World.cell?_alloc_mark ..
   have z1:WX.heap.size=w2.heap.size+1:=by rw[hWX];simp
   have z2:Below w2.heap.size w2 WX:=by rw[hWX];exact (Below.refl _ _).alloc (Nat.le_refl _) _
   rw[←hWX]
   clear hWX
   have hb4:=hb3.trans (z2.mono hb3.size)
   have hEt:=K.keep _ _ hE hb4
   refine (K.read _ _ _ _ _ _ _ _ (by omega) hEt fy).mono ?_
   rintro e w3 ⟨cy,rfl,-,ny,b3⟩
   have hb5:=hb4.trans (b3.mono hb4.size)
   have r8:=(b3.cell (p:=⟨w2.heap.size,7,none⟩) (by show w2.heap.size<_;omega)).trans r7
   have z3:w2.heap.size<w3.heap.size:=by have:=b3.size;omega
   obtain ⟨kv,lv,fv,rfl,⟨la2,lc2,rfl,-,-,-⟩,⟨fa2,fc2,rfl,-,-,-⟩,nk⟩:=(ny y rfl).open
   obtain ⟨ka2,kc2,rfl,ky1,ky2,ky3⟩:=kids_text nk ay
   unfold maxLen at ky2
   rw[twice_len,HWL.out] at ky1 ky3 ⊢
   have KY:=Lib.hid ky3
   have hb6:=(z2.trans (b3.mono (by omega)))
   unfold headC
   generalize (⟨y.h.anchor.toArray⟩:ByteArray)=t1
   generalize (⟨y.h.tag.toArray⟩:ByteArray)=t2
   generalize (⟨y.h.text.toArray⟩:ByteArray)=t3
   generalize (⟨y.h.trail.toArray⟩:ByteArray)=t4
   clear ky3 nk ny fy ay ly r7
   have hb7:Below w3.heap.size w3 (w3.alloc (.cells #[.int .i64 y.h.kind,.int .i64 y.h.style,.int .i64 y.h.at',.int .i64 y.h.blank,.string t1,.string t2,.string t3,.slice ka2 (2*L) kc2,.slice la2 y.h.lead.length lc2,.slice fa2 y.h.foot.length fc2,.bool y.h.ht,.string t4] 30)):=(Below.refl _ _).alloc (Nat.le_refl _) _
   have r9:(w3.alloc (.cells #[.int .i64 y.h.kind,.int .i64 y.h.style,.int .i64 y.h.at',.int .i64 y.h.blank,.string t1,.string t2,.string t3,.slice ka2 (2*L) kc2,.slice la2 y.h.lead.length lc2,.slice fa2 y.h.foot.length fc2,.bool y.h.ht,.string t4] 30)).cell? ⟨w3.heap.size,7,none⟩=some (.slice ka2 (2*L) kc2):=World.cell?_alloc_mark ..
   have z5:(w3.alloc (.cells #[.int .i64 y.h.kind,.int .i64 y.h.style,.int .i64 y.h.at',.int .i64 y.h.blank,.string t1,.string t2,.string t3,.slice ka2 (2*L) kc2,.slice la2 y.h.lead.length lc2,.slice fa2 y.h.foot.length fc2,.bool y.h.ht,.string t4] 30)).heap.size=w3.heap.size+1:=by simp
   have hb8:=hb5.trans (hb7.mono hb5.size)
   by_cases hL0:L=0
   ·subst hL0
    have hb8:Below w.heap.size w (w3.alloc (.cells #[.int .i64 y.h.kind,.int .i64 y.h.style,.int .i64 y.h.at',.int .i64 y.h.blank,.string t1,.string t2,.string t3,.slice ka2 0 kc2,.slice la2 y.h.lead.length lc2,.slice fa2 y.h.foot.length fc2,.bool y.h.ht,.string t4] 30)):=hb8
    clear r9 KX KY hb6 hb7 z5
    have hEu:=K.keep _ _ hE hb8
    go_wp2
    all_goals
     go_loopw [15] (fun v15 wr=>v15=.int .i64 0∧wr=w3.alloc (.cells #[.int .i64 y.h.kind,.int .i64 y.h.style,.int .i64 y.h.at',.int .i64 y.h.blank,.string t1,.string t2,.string t3,.slice ka2 0 kc2,.slice la2 y.h.lead.length lc2,.slice fa2 y.h.foot.length fc2,.bool y.h.ht,.string t4] 30)) (fun _ _=>0)
     case atStart=>exact ⟨rfl,rfl⟩
     case round=>
      obtain ⟨rfl,rfl⟩:=hrel
      go_wp2_with fail
      refine (awake16_true K _ hEu).mono ?_
      rintro e w5 ⟨rfl,b5⟩
      go_wp2
      go_ret
      exact ⟨rfl,hb8.trans (b5.mono hb8.size)⟩
   ·have hLi:¬ ((L:Int)=0):=by omega
    go_wp2
    obtain ⟨WY,hWY⟩:∃ WY:World,WY=w3.alloc (.cells #[.int .i64 y.h.kind,.int .i64 y.h.style,.int .i64 y.h.at',.int .i64 y.h.blank,.string t1,.string t2,.string t3,.slice ka2 (2*L) kc2,.slice la2 y.h.lead.length lc2,.slice fa2 y.h.foot.length fc2,.bool y.h.ht,.string t4] 30):=⟨_,rfl⟩
    rw[←hWY] at hb7 hb8 r9 z5 ⊢
    clear hWY
    have r10:=(hb7.cell (p:=⟨w2.heap.size,7,none⟩) z3).trans r8
    clear r8
    go_loopw [15] (fun v15 wr=>∃ k:Nat,v15=.int .i64 (k:Int)∧k≤L∧Below WY.heap.size WY wr) (fun v15 _=>L-(intOf v15).toNat)
    case atStart=>exact ⟨0,rfl,Nat.zero_le _,Below.refl _ _⟩
    case round=>
     obtain ⟨k,rfl,hk,hbr⟩:=hrel
     have hbw:=hb8.trans (hbr.mono hb8.size)
     by_cases hkn:k<L
     ·obtain ⟨bb,oo,rfl,hlt,hcc⟩:=IsInts.at h0 HL.out.symm (by omega)
      have g1:=hcc k hkn
      rw[←hbw.cell (p:=⟨bb,oo+k,none⟩) hlt] at g1
      obtain ⟨xx,hx⟩:∃ x,x=ks.getD k 0:=⟨_,rfl⟩
      rw[←hx] at g1
      obtain ⟨wd,hwd⟩:∃ wd,word xx=wd:=⟨_,rfl⟩
      have hWk:W.getD k []=wd:=by
       rw[←hwd,hx,HW.out]
       simp[List.getD,List.getElem?_eq_getElem (show k<ks.length by rw[←HL.out];exact hkn)]
      obtain ⟨WB,hWB⟩:∃ WB:ByteArray,(⟨wd.toArray⟩:ByteArray)=WB:=⟨_,rfl⟩
      have CW:=fun Wd=>WordOf_is wd xx Wd hwd
      rw[hWB] at CW
      obtain ⟨xb,xo,rfl,xlt,xc⟩:=KX.out (by omega)
      obtain ⟨yb,yo,rfl,ylt,yc⟩:=KY.out (by omega)
      obtain ⟨c1,c2⟩:=xc k hkn
      obtain ⟨c3,_⟩:=yc (2*k) (by omega)
      obtain ⟨c4,_⟩:=yc (2*k+1) (by omega)
      rw[hWk,hWB] at c1
      rw[(twice_at W k).1,hWk,hWB] at c3
      rw[(twice_at W k).2,hWk,hWB] at c4
      have hb9:=hb7.trans (hbr.mono (by omega))
      have hb10:=hb6.trans (hb9.mono (by omega))
      rw[←hb10.cell (p:=⟨xb,_,none⟩) xlt] at c1 c2
      rw[←hb9.cell (p:=⟨yb,_,none⟩) ylt] at c3 c4
      have r11:=(hbr.cell (p:=⟨w2.heap.size,7,none⟩) (by show w2.heap.size<_;omega)).trans r10
      have r12:=(hbr.cell (p:=⟨w3.heap.size,7,none⟩) (by show w3.heap.size<_;omega)).trans r9
      have z6:=hbr.size
      clear hcc hx hwd hWB hWk xc yc r9 r10 KX KY
      go_wp2_with fail
      refine (CW _).mono ?_
      rintro e w5 ⟨rfl,b5⟩
      have d1:=(b5.cell (p:=⟨xb,xo+k*12+6,none⟩) (by show xb<_;have:=hb10.size;omega)).trans c1
      have d2:=(b5.cell (p:=⟨xb,xo+k*12+1,none⟩) (by show xb<_;have:=hb10.size;omega)).trans c2
      have d3:=(b5.cell (p:=⟨yb,yo+2*k*12+6,none⟩) (by show yb<_;have:=hb9.size;omega)).trans c3
      have d4:=(b5.cell (p:=⟨yb,yo+(2*k+1)*12+6,none⟩) (by show yb<_;have:=hb9.size;omega)).trans c4
      have r13:=(b5.cell (p:=⟨w2.heap.size,7,none⟩) (by show w2.heap.size<_;omega)).trans r11
      have r14:=(b5.cell (p:=⟨w3.heap.size,7,none⟩) (by show w3.heap.size<_;omega)).trans r12
      clear c1 c2 c3 c4 r11 r12
      go_wp2
      go_roundw
      case rel=>exact ⟨k+1,by go_num,by omega,hbr.trans (b5.mono hbr.size)⟩
      case measure=>simp[intOf];omega
     ·obtain rfl:L=k:=by omega
      have hEu:=K.keep _ _ hE hbw
      go_wp2_with fail
      refine (awake16_true K _ hEu).mono ?_
      rintro e w5 ⟨rfl,b5⟩
      go_wp2
      go_ret
      exact ⟨rfl,hbw.trans (b5.mono hbw.size)⟩
end Go.Proofs.YtncngeamdechmaaGreatDoor

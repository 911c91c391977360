/- Parts of the proof, put together from smaller texts (blanks that Lean does not want are struck). Conditions: those that each theorem writes out. -/
import Derived.Test.YtncngeamdechmaaGreatDoorZ19
import Derived.Test.YtncngeamdechmaaGreatDoorZ20
namespace Go.Proofs.YtncngeamdechmaaGreatDoor
open Go.RowKit
attribute [local go_sem ↓] Go.wp_at_zero Go.wp_at_succ
set_option maxRecDepth 100000 in
set_option maxHeartbeats 6400000 in
theorem quotRead_39 (n:Int) (T:List UInt8) (E:Nat) (O:Bool) (C:Int) (s:ByteArray) (k0:Nat) (w:World) (hs:s.size≤100000) (hk0:k0<s.size) (hb0:byt s k0=39) (h:QZ s 39 n T E O C (k0+1) false [] [] []) :
  Calls Tryz.prog 53 #[.string s,.int .i64 (k0:Int),.int .i64 n] w fun e w'=>e=.returned (.tuple #[.string ⟨T.toArray⟩,.int .i64 (E:Int),.bool O,.int .i64 C])∧Below w.heap.size w w':=by
 have hi:=run_byt s k0 hk0 (k0:Int) rfl
 rw[hb0] at hi
 obtain ⟨f0,hf0⟩:∃ f0,f0=k0+1:=⟨_,rfl⟩
 have ef0:(k0:Int)+1=(f0:Int):=by omega
 have hf0s:f0≤s.size:=by omega
 have hd1:decide ((k0:Int)<0)=false:=decide_eq_false (by omega)
 have hd2:decide (s.size≤k0)=false:=decide_eq_false (by omega)
 rw[←hf0] at h
 have H0:=Lib.hid h
 have hbW:Below w.heap.size w w:=Below.refl _ _
 have og0:=OutG.fresh w.heap.size w (Nat.le_refl _)
 have hbX0:Below w.heap.size w (w.alloc (.cells #[.slice none 0 0] 24)):=hbW.alloc (Nat.le_refl _) _
 have hX0s:=hbX0.size
 clear h hb0 hf0
 go_enter Tryz.func53,Tryz.ntmps53
 go_wp2
 obtain ⟨B,hB⟩:∃ B,B=w.heap.size:=⟨_,rfl⟩
 rw[←hB] at og0 hbX0 hbW hX0s ⊢
 have HBB:=Lib.hid hB
 obtain ⟨W0,hW0⟩:∃ W0,W0=w.alloc (.cells #[.slice none 0 0] 24):=⟨_,rfl⟩
 rw[←hW0] at og0 hbX0 hX0s ⊢
 have hB0:w.heap.size≤B:=by rw[hB];exact Nat.le_refl _
 clear hB hW0
 go_loopw [11,12] (fun v11 v12 wr=>∃ (f:Nat) (cl:List (List (List UInt8))) (op:List (List UInt8)) (cs:List Value) (c:Value) (R:List (List UInt8 × Bool)),v11=.int .i64 (f:Int)∧OutG B wr v12 cl op cs c∧Below B w wr∧f≤s.size∧totG cl+U.tot op≤2*f∧B≤wr.heap.size∧Hid (GR cl op R)∧Hid (QZ s 39 n T E O C f false R [] [])) (fun v11 _ _=>s.size-(intOf v11).toNat)
 case atStart=>exact ⟨f0,[],[],[],_,[],rfl,og0,hbX0,hf0s,Nat.zero_le _,hX0s,GR.nil,H0.out⟩
 case round=>
  obtain ⟨f,cl,op,cs,c,R,rfl,hG,hb,hf,htt,hBw,HG,HQ⟩:=hrel
  go_wp2_with fail
  refine (quotRow_39 n T E O C R s f _ hs hf HQ.out).mono ?_
  rintro e w1 ⟨x,te,by',c1,rfl,hA,hb1⟩
  have hG1:=hG.below hb1
  have hb2:Below B w w1:=hb.trans (hb1.mono hBw)
  have hB1:B≤w1.heap.size:=Nat.le_trans hBw hb1.size
  rcases hA with ⟨rfl,rfl,rfl,rT,rE,rO,rC⟩|⟨rfl,hxl,hlt,hle,hA⟩
  ·subst rT rE rO rC
   go_wp2
   refine bodyPost_ret (results_tmp4 rfl _ _ _) rfl ?_
   exact ⟨rfl,by rw[←HBB.out];exact hb2⟩
  ·obtain ⟨g,cp,rfl,hgB,hgs,hcp,hcm⟩:=hG1.shape
   unfold maxLen at hcm
   have hcell:=hG1.cell
   have hopl:=tot_len2 op
   have hcll:=totG_len cl HG.out.2
   have hbA:Below w1.heap.size w1 (w1.alloc (.cells #[.string ⟨x.toArray⟩] 9)):=(Below.refl _ _).alloc (Nat.le_refl _) _
   have hbB:Below B w (w1.alloc (.cells #[.string ⟨x.toArray⟩] 9)):=hb2.alloc hB1 _
   have hBA:B≤(w1.alloc (.cells #[.string ⟨x.toArray⟩] 9)).heap.size:=by simp;omega
   obtain ⟨m,hm⟩:∃ m,op.length+1=m:=⟨_,rfl⟩
   have hto2:totG cl+U.tot (op++[x])≤2*te:=by rw[U.tot_append];simp only[U.tot];omega
   have HM:=Lib.hid hm
   have hmx:m≤1000000000:=by omega
   have hop9:op.length≤1000000000:=by omega
   have hcl9:cl.length≤1000000000:=by omega
   clear hG hb hb1 htt hm
   rcases hA with ⟨rfl,rT,rE,rO,rC⟩|⟨rfl,hbl,hQ⟩|⟨rfl,hbl,hQ⟩
   ·subst rC
    have hqo:=HG.out.one
    rw[←rO] at hqo
    have HJ:=Lib.hid ((HG.out.done x).symm.trans rT.symm)
    have hMt:totG (cl++[op++[x]])≤1000000:=by rw[totG_append];simp only[totG];omega
    have HMt:=Lib.hid hMt
    have hjn:∀ W v,IsGroups W.heap.size W v (cl++[op++[x]])→Calls Tryz.prog 67 #[v] W fun e w'=>e=.returned (.string ⟨T.toArray⟩)∧Below W.heap.size W w':=fun W v hv=>quotJoin_is T v _ W hv HMt.out (by simp) HJ.out
    have HJN:=Lib.hid hjn
    obtain rfl:E=te:=rE
    clear rT rO hMt hjn
    by_cases hcl:cl.length=0
    ·obtain rfl:cl=[]:=List.eq_nil_of_length_eq_zero hcl
     replace hcell:w1.cell? ⟨g,0,none⟩=some c:=hcell
     by_cases hopz:op.length=0
     ·obtain rfl:O=true:=by rw[hqo,hopz];rfl
      obtain rfl:m=1:=by have:=HM.out;omega
      clear hcl hopz
      clear hqo
      go_wp2_with (at_builtin;refine appendOneG w1 x rfl _ _ (by rfl) B _ op (by rfl) (by rfl) hG1.last (by omega) hB1 1 HM.out ?_;intro g2 cap2 w2 o2 gr2 li2;have hc2:w2.cell? ⟨g,0,none⟩=some c:=(hG1.after hbA gr2).1;have hz2:w2.frozen? ⟨g,0,none⟩=false:=(hG1.after hbA gr2).2)
      have hG3:OutG B (w2.setCell ⟨g,0,none⟩ (.slice (some ⟨g2,0,none⟩) 1 cap2)) (.slice (some ⟨g,0,none⟩) (1) cp) [] (op++[x]) cs (.slice (some ⟨g2,0,none⟩) 1 cap2):=(hG1.put hbA gr2 li2 o2).1
      have gr3:w2.grownBy (w2.setCell ⟨g,0,none⟩ (.slice (some ⟨g2,0,none⟩) 1 cap2)) (some g):=(hG1.put hbA gr2 li2 o2).2
      have hb3:=hbB.grown gr2 hBA (fun k hk=>(hG1.last.lt k hk).1)
      have hb4:=hb3.grown gr3 (Nat.le_trans hBA gr2.size) (fun k hk=>by injection hk with hk;omega)
      have hg3:=(hG3.own.lt g rfl).2
      have hc3:(w2.setCell ⟨g,0,none⟩ (.slice (some ⟨g2,0,none⟩) 1 cap2)).cell? ⟨g,0,none⟩=some (.slice (some ⟨g2,0,none⟩) 1 cap2):=OutG.cell (B:=B) (g:=g) (cp:=cp) (cl:=[]) (op:=op++[x]) (cs:=cs) hG3
      obtain ⟨W3,hW3⟩:∃ W3,W3=w2.setCell ⟨g,0,none⟩ (.slice (some ⟨g2,0,none⟩) 1 cap2):=⟨_,rfl⟩
      rw[←hW3] at hG3 hb4 hg3 hc3 ⊢
      have hIS:=hG3.is
      have HIS:=Lib.hid hIS
      clear hW3 hG3 gr3 hb3 hc2 hz2 gr2 li2 o2 hG1 hIS hcell
      (first|(go_region_law (first|(go_simp;go_at_call 67;refine (HJN.out _ _ (by exact HIS.out)).mono ?_;rintro e w8 ⟨rfl,b8⟩;have g8:w8.cell? ⟨g,0,none⟩=some (.slice (some ⟨g2,0,none⟩) 1 cap2):=by rw[b8.cell (p:=⟨g,0,none⟩) (by exact hg3)];exact hc3)))|fail)
      all_goals
       have hbd:Below B w W3.drew:=below_drewN hb4 1
       have hBd:B≤W3.drew.heap.size:=by show B≤W3.heap.size;omega
       go_wp2
       refine bodyPost_ret (results_tmp4 rfl _ _ _) rfl ?_
       exact ⟨rfl,by rw[←HBB.out];exact hbd.trans (b8.mono hBd)⟩
     ·obtain rfl:O=false:=by rw[hqo];simp[hopz]
      have hm1:((m:Int)==1)=false:=by have:=HM.out;simp;omega
      clear hcl hopz
      clear hqo
      go_wp2_with (at_builtin;refine appendOneG w1 x rfl _ _ (by rfl) B _ op (by rfl) (by rfl) hG1.last (by omega) hB1 m HM.out ?_;intro g2 cap2 w2 o2 gr2 li2;have hc2:w2.cell? ⟨g,0,none⟩=some c:=(hG1.after hbA gr2).1;have hz2:w2.frozen? ⟨g,0,none⟩=false:=(hG1.after hbA gr2).2)
      have hG3:OutG B (w2.setCell ⟨g,0,none⟩ (.slice (some ⟨g2,0,none⟩) m cap2)) (.slice (some ⟨g,0,none⟩) (1) cp) [] (op++[x]) cs (.slice (some ⟨g2,0,none⟩) m cap2):=(hG1.put hbA gr2 li2 o2).1
      have gr3:w2.grownBy (w2.setCell ⟨g,0,none⟩ (.slice (some ⟨g2,0,none⟩) m cap2)) (some g):=(hG1.put hbA gr2 li2 o2).2
      have hb3:=hbB.grown gr2 hBA (fun k hk=>(hG1.last.lt k hk).1)
      have hb4:=hb3.grown gr3 (Nat.le_trans hBA gr2.size) (fun k hk=>by injection hk with hk;omega)
      have hg3:=(hG3.own.lt g rfl).2
      have hc3:(w2.setCell ⟨g,0,none⟩ (.slice (some ⟨g2,0,none⟩) m cap2)).cell? ⟨g,0,none⟩=some (.slice (some ⟨g2,0,none⟩) m cap2):=OutG.cell (B:=B) (g:=g) (cp:=cp) (cl:=[]) (op:=op++[x]) (cs:=cs) hG3
      obtain ⟨W3,hW3⟩:∃ W3,W3=w2.setCell ⟨g,0,none⟩ (.slice (some ⟨g2,0,none⟩) m cap2):=⟨_,rfl⟩
      rw[←hW3] at hG3 hb4 hg3 hc3 ⊢
      have hIS:=hG3.is
      have HIS:=Lib.hid hIS
      clear hW3 hG3 gr3 hb3 hc2 hz2 gr2 li2 o2 hG1 hIS hcell
      (first|(go_region_law (first|(go_simp;go_at_call 67;refine (HJN.out _ _ (by exact HIS.out)).mono ?_;rintro e w8 ⟨rfl,b8⟩;have g8:w8.cell? ⟨g,0,none⟩=some (.slice (some ⟨g2,0,none⟩) m cap2):=by rw[b8.cell (p:=⟨g,0,none⟩) (by exact hg3)];exact hc3)))|fail)
      all_goals
       have hbd:Below B w W3.drew:=below_drewN hb4 1
       have hBd:B≤W3.drew.heap.size:=by show B≤W3.heap.size;omega
       go_wp2
       refine bodyPost_ret (results_tmp4 rfl _ _ _) rfl ?_
       exact ⟨rfl,by rw[←HBB.out];exact hbd.trans (b8.mono hBd)⟩
    ·obtain rfl:O=false:=by rw[hqo];simp[hcl]
     have hc1:((cl.length:Int)==0)=false:=by rw[beq_eq_false_iff_ne];omega
     have hcn:¬ cl=[]:=fun e=>hcl (by rw[e];rfl)
     have hce:decide (cl=[])=false:=decide_eq_false hcn
     clear hqo
     go_wp2_with (at_builtin;refine appendOneG w1 x rfl _ _ (by rfl) B _ op (by rfl) (by rfl) hG1.last (by omega) hB1 m HM.out ?_;intro g2 cap2 w2 o2 gr2 li2;have hc2:w2.cell? ⟨g,cl.length,none⟩=some c:=(hG1.after hbA gr2).1;have hz2:w2.frozen? ⟨g,cl.length,none⟩=false:=(hG1.after hbA gr2).2)
     have hG3:OutG B (w2.setCell ⟨g,cl.length,none⟩ (.slice (some ⟨g2,0,none⟩) m cap2)) (.slice (some ⟨g,0,none⟩) (cl.length+1) cp) cl (op++[x]) cs (.slice (some ⟨g2,0,none⟩) m cap2):=(hG1.put hbA gr2 li2 o2).1
     have gr3:w2.grownBy (w2.setCell ⟨g,cl.length,none⟩ (.slice (some ⟨g2,0,none⟩) m cap2)) (some g):=(hG1.put hbA gr2 li2 o2).2
     have hb3:=hbB.grown gr2 hBA (fun k hk=>(hG1.last.lt k hk).1)
     have hb4:=hb3.grown gr3 (Nat.le_trans hBA gr2.size) (fun k hk=>by injection hk with hk;omega)
     have hg3:=(hG3.own.lt g rfl).2
     have hc3:(w2.setCell ⟨g,cl.length,none⟩ (.slice (some ⟨g2,0,none⟩) m cap2)).cell? ⟨g,cl.length,none⟩=some (.slice (some ⟨g2,0,none⟩) m cap2):=OutG.cell (B:=B) (g:=g) (cp:=cp) (cl:=cl) (op:=op++[x]) (cs:=cs) hG3
     obtain ⟨W3,hW3⟩:∃ W3,W3=w2.setCell ⟨g,cl.length,none⟩ (.slice (some ⟨g2,0,none⟩) m cap2):=⟨_,rfl⟩
     rw[←hW3] at hG3 hb4 hg3 hc3 ⊢
     have hIS:=hG3.is
     have HIS:=Lib.hid hIS
     clear hW3 hG3 gr3 hb3 hc2 hz2 gr2 li2 o2 hG1 hIS hcell
     (first|(go_region_law (first|(go_simp;go_at_call 67;refine (HJN.out _ _ (by exact HIS.out)).mono ?_;rintro e w8 ⟨rfl,b8⟩;have g8:w8.cell? ⟨g,cl.length,none⟩=some (.slice (some ⟨g2,0,none⟩) m cap2):=by rw[b8.cell (p:=⟨g,cl.length,none⟩) (by exact hg3)];exact hc3)))|fail)
     all_goals
      have hbd:Below B w W3.drew:=below_drewN hb4 1
      have hBd:B≤W3.drew.heap.size:=by show B≤W3.heap.size;omega
      go_wp2
      refine bodyPost_ret (results_tmp4 rfl _ _ _) rfl ?_
      exact ⟨rfl,by rw[←HBB.out];exact hbd.trans (b8.mono hBd)⟩
   ·skip
    obtain ⟨b,f2,i,y,c2,hE2,hF2,hI2,hbg,hcase⟩:=hQ.beg
    have HBG:=Lib.hid hbg
    have HRB:=Lib.hid (RowB.self hbl)
    have HE2:=Lib.hid hE2
    have HF2:=Lib.hid hF2
    have HI2:=Lib.hid hI2
    have HGR:=Lib.hid (HG.out.lf x)
    clear hbg hbl hE2 hF2 hI2 hQ
    go_wp2_with (at_builtin;refine appendOneG w1 x rfl _ _ (by rfl) B _ op (by rfl) (by rfl) hG1.last (by omega) hB1 m HM.out ?_;intro g2 cap2 w2 o2 gr2 li2;obtain ⟨hc2,hz2⟩:=hG1.after hbA gr2;obtain ⟨hG3,gr3⟩:=hG1.put hbA gr2 li2 o2;have hb3:=hbB.grown gr2 hBA (fun k hk=>(hG1.last.lt k hk).1);have hb4:=hb3.grown gr3 (Nat.le_trans hBA gr2.size) (fun k hk=>by injection hk with hk;omega);have hs3:=Nat.le_trans (Nat.le_trans hBA gr2.size) gr3.size)
    refine (quotBegin_is y c2 s te b f2 i n _ (by omega) hle HRB.out HE2.out HF2.out HI2.out HBG.out).mono ?_
    rintro e w6 ⟨rfl,b6⟩
    have hb7:=hb4.trans (b6.mono hs3)
    have hs7:=Nat.le_trans hs3 b6.size
    rcases hcase with ⟨rfl,rT,rE,rO,rC⟩|⟨rfl,hy1,hy2,hQ3⟩
    ·subst rT rE rO rC
     go_wp2
     refine bodyPost_ret (results_tmp4 rfl _ _ _) rfl ?_
     exact ⟨rfl,by rw[←HBB.out];exact hb7⟩
    ·go_wp2
     go_roundw
     case rel=>exact ⟨y,cl,(op++[x]),cs,_,_,rfl,hG3.below b6,hb7,hy2,by omega,hs7,HGR.out,hQ3⟩
     case measure=>simp[intOf];omega
   ·skip
    obtain ⟨b,f2,i,y,c2,hE2,hF2,hI2,hbg,hcase⟩:=hQ.beg
    have HBG:=Lib.hid hbg
    have HRB:=Lib.hid (RowB.self hbl)
    have HE2:=Lib.hid hE2
    have HF2:=Lib.hid hF2
    have HI2:=Lib.hid hI2
    have HGR:=Lib.hid (HG.out.goes x)
    clear hbg hbl hE2 hF2 hI2 hQ
    go_wp2_with (at_builtin;first|(refine appendOneG w1 x rfl _ _ (by rfl) B _ op (by rfl) (by rfl) hG1.last (by omega) hB1 m HM.out ?_;intro g2 cap2 w2 o2 gr2 li2;obtain ⟨hc2,hz2⟩:=hG1.after hbA gr2;obtain ⟨hG3,gr3⟩:=hG1.put hbA gr2 li2 o2;have hb3:=hbB.grown gr2 hBA (fun k hk=>(hG1.last.lt k hk).1);have hb4:=hb3.grown gr3 (Nat.le_trans hBA gr2.size) (fun k hk=>by injection hk with hk;omega);have hs3:=Nat.le_trans (Nat.le_trans hBA gr2.size) gr3.size)|(refine appendNone _ rfl _ _ (by rfl) B g cp cl (op++[x]) cs _ (by rfl) w2.heap.size (by rfl) (by simp) hG3 (by omega) hs3 ?_;intro v5 w5 hG5 bb5 hs5;have hb5:=bb5 w hb4))
    refine (quotBegin_is y c2 s te b f2 i n _ (by omega) hle HRB.out HE2.out HF2.out HI2.out HBG.out).mono ?_
    rintro e w6 ⟨rfl,b6⟩
    have hb7:=hb5.trans (b6.mono hs5)
    have hs7:=Nat.le_trans hs5 b6.size
    rcases hcase with ⟨rfl,rT,rE,rO,rC⟩|⟨rfl,hy1,hy2,hQ3⟩
    ·subst rT rE rO rC
     go_wp2
     refine bodyPost_ret (results_tmp4 rfl _ _ _) rfl ?_
     exact ⟨rfl,by rw[←HBB.out];exact hb7⟩
    ·go_wp2
     go_roundw
     case rel=>exact ⟨y,(cl++[op++[x]]),[],(cs++[_]),_,_,rfl,hG5.below b6,hb7,hy2,by rw[totG_append];simp only[totG,U.tot];omega,hs7,HGR.out,hQ3⟩
     case measure=>simp[intOf];omega
end Go.Proofs.YtncngeamdechmaaGreatDoor

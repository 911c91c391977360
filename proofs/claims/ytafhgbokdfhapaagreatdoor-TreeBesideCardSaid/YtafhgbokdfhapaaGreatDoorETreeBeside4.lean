/- Parts of the proof of TreeBeside, put together from smaller texts (blanks that Lean does not want are struck). Conditions: those that each theorem writes out. -/
import Derived.Test.YtafhgbokdfhapaaGreatDoorETreeBeside0
import Derived.Test.YtafhgbokdfhapaaGreatDoorETreeBeside1
import Derived.Test.YtafhgbokdfhapaaGreatDoorETreeBeside3
import Derived.Test.YtafhgbokdfhapaaGreatDoorZ00
import Derived.Test.YtafhgbokdfhapaaGreatDoorZ29
namespace Go.Proofs.YtafhgbokdfhapaaGreatDoor
open Go.RowKit
attribute [local go_sem ↓] Go.wp_at_zero Go.wp_at_succ
theorem mkB_eq {S:ByteArray} {l:List UInt8} (h:S.data.toList=l):S=mkB l:=by
 subst h
 cases S
 rfl
theorem Smp.of_eq {s:ByteArray} {l:List UInt8} (h:s=mkB l) (hl:l.all smpU=true):Smp s:=by subst h;exact hl
theorem bsT_smp:∀ b∈[1,2,3,4],∀ k∈[0,1,2,3],∀ w∈[0,1,2],∀ tab∈[true,false],(bsT b k w tab).all smpU=true:=by decide +kernel
theorem below3 (w:World) (o1 o2 o3:Obj):Below w.heap.size w (((w.alloc o1).alloc o2).alloc o3):=by
 have h1:=(Below.refl w.heap.size w).alloc (Nat.le_refl _) o1
 have h2:=h1.alloc h1.size o2
 exact h2.alloc h2.size o3
theorem bs_mem {b:Nat} (h:b<4):1+b∈[1,2,3,4]:=by
 have:b=0∨b=1∨b=2∨b=3:=by omega
 rcases this with rfl|rfl|rfl|rfl <;> decide
set_option maxRecDepth 100000 in
set_option maxHeartbeats 6400000 in
theorem bes_0_0_1 {Ev:World→Prop} {P:ByteArray→Prop} (K:TreeC Ev P) (bl sg wh:Int) (w:World) (hE:Ev w) (b:Nat) (hb:lowZ bl 4=(b:Int)) (hk:lowZ sg 4=0) (hw:lowZ wh 3=0) :
  Calls Tryz.prog 5 #[.int .i64 bl,.int .i64 sg,.int .i64 wh,.bool true] w fun e w'=>e=.returned (.bool true)∧Below w.heap.size w w':=by
 have hbr:=lowZ_range bl 4 (by omega)
 rw[hb] at hbr
 have hbC:=bsC_all (1+b) (bs_mem (by omega)) 0 (by decide) 0 (by decide) true (by decide)
 have hbS:=bsT_smp (1+b) (bs_mem (by omega)) 0 (by decide) 0 (by decide) true (by decide)
 go_enter Tryz.func5,Tryz.ntmps5
 go_wp2_with fail
 refine (Low_is (b:Int) bl 4 _ (by omega) (by omega) hb).mono ?_
 rintro e w1 ⟨rfl,rfl⟩
 go_wp2_with fail
 refine (Low_is 0 sg 4 _ (by omega) (by omega) hk).mono ?_
 rintro e w1 ⟨rfl,rfl⟩
 go_wp2_with fail
 refine (Low_is 0 wh 3 _ (by omega) (by omega) hw).mono ?_
 rintro e w1 ⟨rfl,rfl⟩
 go_wp2_with fail
 refine (lawBlanks_is (1+b) _ _ (by omega) (by omega)).mono ?_
 rintro e w1 ⟨rfl,rfl⟩
 obtain ⟨G,hG⟩:∃ G:ByteArray,G=⟨(List.replicate (1+b) (32:UInt8)).toArray⟩:=⟨_,rfl⟩
 have hGz:G.size=1+b:=by rw[hG];simp[ByteArray.size]
 have hGl:Hid (G.data.toList=spc (1+b)):=by rw[hG];rfl
 rw[←hG]
 clear hG
 go_wp2_with fail
 have hSz:((⟨#[45]⟩:ByteArray)++(G++(⟨#[9]⟩:ByteArray))++(⟨#[45,32,112]⟩:ByteArray)++(⟨#[10]⟩:ByteArray)).size=6+b+1:=by
  simp only[ByteArray.size_append,hGz]
  show _+_+_+_=_
  simp only[ByteArray.size,List.size_toArray,List.length_cons,List.length_nil]
  omega
 have hS:((⟨#[45]⟩:ByteArray)++(G++(⟨#[9]⟩:ByteArray))++(⟨#[45,32,112]⟩:ByteArray)++(⟨#[10]⟩:ByteArray))=mkB (bsT (1+b) 0 0 true):=mkB_eq (by
  simp only[ByteArray.data_append,Array.toList_append,hGl.out]
  simp[bsT,bsS,bsG,bsW])
 have hZ:TreeZ ((⟨#[45]⟩:ByteArray)++(G++(⟨#[9]⟩:ByteArray))++(⟨#[45,32,112]⟩:ByteArray)++(⟨#[10]⟩:ByteArray)) 0 false none [] ((1+(1+b):Nat):Int) 4:=by
  rw[hS]
  unfold bsC at hbC
  rw[if_neg (by decide),if_pos rfl] at hbC
  exact badX_is hbC
 have hSm:=Smp.of_eq hS hbS
 clear hbS hbC hS hGl
 refine (K.read _ _ _ _ _ _ _ _ (by omega) (K.smp _ hSm) (K.keep _ _ hE (below3 _ _ _ _)) hZ).mono ?_
 rintro e w2 ⟨cx,lx,rfl,ly,-,-,b2⟩
 obtain ⟨i1,i2,i3,i4,u1,u2,u3,a1,m1,d1,a2,m2,d2,a3,m3,d3,bo,u4,rfl⟩:=ly
 clear hZ
 have hb2:=(below3 _ _ _ _).trans (b2.mono (below3 _ _ _ _).size)
 go_wp2_with fail
 have hb3:=hb2.alloc hb2.size (.cells #[.int .i64 i1,.int .i64 i2,.int .i64 i3,.int .i64 i4,.string u1,.string u2,.string u3,.slice a1 m1 d1,.slice a2 m2 d2,.slice a3 m3 d3,.bool bo,.string u4] 29)
 have hEu:=K.keep _ _ hE hb3
 refine (awake17_true K _ hEu).mono ?_
 rintro e w5 ⟨rfl,b5⟩
 go_wp2
 go_ret
 exact ⟨rfl,hb3.trans (b5.mono hb3.size)⟩
set_option maxRecDepth 100000 in
set_option maxHeartbeats 6400000 in
theorem bes_0_0_0 {Ev:World→Prop} {P:ByteArray→Prop} (K:TreeC Ev P) (bl sg wh:Int) (w:World) (hE:Ev w) (b:Nat) (hb:lowZ bl 4=(b:Int)) (hk:lowZ sg 4=0) (hw:lowZ wh 3=0) :
  Calls Tryz.prog 5 #[.int .i64 bl,.int .i64 sg,.int .i64 wh,.bool false] w fun e w'=>e=.returned (.bool true)∧Below w.heap.size w w':=by
 have hbr:=lowZ_range bl 4 (by omega)
 rw[hb] at hbr
 have hbC:=bsC_all (1+b) (bs_mem (by omega)) 0 (by decide) 0 (by decide) false (by decide)
 have hbS:=bsT_smp (1+b) (bs_mem (by omega)) 0 (by decide) 0 (by decide) false (by decide)
 go_enter Tryz.func5,Tryz.ntmps5
 go_wp2_with fail
 refine (Low_is (b:Int) bl 4 _ (by omega) (by omega) hb).mono ?_
 rintro e w1 ⟨rfl,rfl⟩
 go_wp2_with fail
 refine (Low_is 0 sg 4 _ (by omega) (by omega) hk).mono ?_
 rintro e w1 ⟨rfl,rfl⟩
 go_wp2_with fail
 refine (Low_is 0 wh 3 _ (by omega) (by omega) hw).mono ?_
 rintro e w1 ⟨rfl,rfl⟩
 go_wp2_with fail
 refine (lawBlanks_is (1+b) _ _ (by omega) (by omega)).mono ?_
 rintro e w1 ⟨rfl,rfl⟩
 obtain ⟨G,hG⟩:∃ G:ByteArray,G=⟨(List.replicate (1+b) (32:UInt8)).toArray⟩:=⟨_,rfl⟩
 have hGz:G.size=1+b:=by rw[hG];simp[ByteArray.size]
 have hGl:Hid (G.data.toList=spc (1+b)):=by rw[hG];rfl
 rw[←hG]
 clear hG
 go_wp2_with fail
 refine (lawBlanks_is (1+(1+b)) _ _ (by omega) (by omega)).mono ?_
 rintro e w1 ⟨rfl,rfl⟩
 obtain ⟨G2,hG2⟩:∃ G2:ByteArray,G2=⟨(List.replicate (1+(1+b)) (32:UInt8)).toArray⟩:=⟨_,rfl⟩
 have hGz2:G2.size=1+(1+b):=by rw[hG2];simp[ByteArray.size]
 have hGl2:Hid (G2.data.toList=spc (1+(1+b))):=by rw[hG2];rfl
 rw[←hG2]
 clear hG2
 go_wp2_with fail
 have hSz:((⟨#[45]⟩:ByteArray)++G++(⟨#[45,32,112]⟩:ByteArray)++(⟨#[10]⟩:ByteArray)++G2++(⟨#[45,32,112]⟩:ByteArray)++(⟨#[10,45,32,120,10]⟩:ByteArray)).size=14+b+1+b+1:=by
  simp only[ByteArray.size_append,hGz,hGz2]
  show _+_+_+_+_+_+_=_
  simp only[ByteArray.size,List.size_toArray,List.length_cons,List.length_nil]
  omega
 have hS:((⟨#[45]⟩:ByteArray)++G++(⟨#[45,32,112]⟩:ByteArray)++(⟨#[10]⟩:ByteArray)++G2++(⟨#[45,32,112]⟩:ByteArray)++(⟨#[10,45,32,120,10]⟩:ByteArray))=mkB (bsT (1+b) 0 0 false):=mkB_eq (by
  simp only[ByteArray.data_append,Array.toList_append,hGl.out,hGl2.out]
  simp[bsT,bsS,bsG,bsW])
 obtain ⟨T,hP,hZ⟩:=goodX_is (show goodX (mkB (bsT (1+b) 0 0 false)) 0 false (bsP 0)=true by
  unfold bsC at hbC
  rw[if_neg (by decide),if_neg (by decide)] at hbC
  exact hbC)
 obtain ⟨a,c,hTk,hTa,hTc,hTn⟩:∃ a c,T.kids=[a,c]∧a.h.style=6∧c.h.text=[120]∧1<a.kids.length:=by
  unfold bsP at hP
  split at hP
  ·rename_i a c e
   simp at hP
   exact ⟨a,c,e,hP.1,hP.2.1,hP.2.2⟩
  ·cases hP
 rw[←hS] at hZ
 have hSm:=Smp.of_eq hS hbS
 clear hbS hbC hS hGl hP hGl2
 refine (K.read _ _ _ _ _ _ _ _ (by omega) (K.smp _ hSm) (K.keep _ _ hE (below3 _ _ _ _)) hZ).mono ?_
 rintro e w2 ⟨cx,lx,rfl,-,-,nx,b2⟩
 obtain ⟨kv,lv,fv,rfl,⟨la,lc,rfl,-,-,-⟩,⟨fa,fc,rfl,-,-,-⟩,⟨ka,kc,rfl,n1,n2,n3⟩⟩:=(nx _ rfl).open
 unfold maxLen at n2
 rw[hTk] at n1 n3 ⊢
 obtain ⟨kb,ko,rfl,hkb,hk⟩:=n3 (by show 0<2;decide)
 have n1:2≤kc:=n1
 rw[show ([a,c]:List NT).length=2 from rfl]
 obtain ⟨p0,p1,p2,p3,p4,p5,p6,p7,p8,p9,p10,p11,hN1,f0,f1,f2,f3,f4,f5,f6,f7,f8,f9,f10,f11⟩:=kid_cells hk (j:=0) (by show 0<2;decide)
 obtain ⟨q0,q1,q2,q3,q4,q5,q6,q7,q8,q9,q10,q11,hN2,g0,g1,g2,g3,g4,g5,g6,g7,g8,g9,g10,g11⟩:=kid_cells hk (j:=1) (by show 1<2;decide)
 obtain ⟨kv1,lv1,fv1,e1,-,-,⟨ka1,kc1,rfl,u1,u2,-⟩⟩:=hN1.open
 unfold headC at e1
 simp only[List.cons.injEq] at e1
 have t1:w2.cell? ⟨kb,ko+1,none⟩=some (.int .i64 6):=by
  have:=f1
  rw[e1.2.1] at this
  simpa [hTa] using this
 have t7:w2.cell? ⟨kb,ko+7,none⟩=some (.slice ka1 a.kids.length kc1):=by
  have:=f7
  rw[e1.2.2.2.2.2.2.2.1] at this
  simpa using this
 obtain ⟨kv2,lv2,fv2,e2,-⟩:=hN2.open
 unfold headC at e2
 simp only[List.cons.injEq] at e2
 have t18:w2.cell? ⟨kb,ko+12+6,none⟩=some (.string ⟨#[120]⟩):=by
  have:=g6
  rw[e2.2.2.2.2.2.2.1] at this
  simpa [hTc] using this
 obtain ⟨an,han⟩:∃ an,an=a.kids.length:=⟨_,rfl⟩
 have u1:a.kids.length≤kc1:=u1
 rw[←han] at t7 hTn u1
 unfold maxLen at u2
 clear e2 hTc
 have HKB:kb<w2.heap.size:=hkb
 clear f0 f1 f2 f3 f4 f5 f6 f7 f8 f9 f10 f11 g0 g1 g2 g3 g4 g5 g6 g7 g8 g9 g10 g11 hN2 hN1 hk n3 hkb nx hTk hTa hZ e1
 unfold headC
 generalize (⟨T.h.anchor.toArray⟩:ByteArray)=s1
 generalize (⟨T.h.tag.toArray⟩:ByteArray)=s2
 generalize (⟨T.h.text.toArray⟩:ByteArray)=s3
 generalize (⟨T.h.trail.toArray⟩:ByteArray)=s4
 have hb2:=(below3 _ _ _ _).trans (b2.mono (below3 _ _ _ _).size)
 have hb3:=hb2.alloc hb2.size (.cells #[.int .i64 T.h.kind,.int .i64 T.h.style,.int .i64 T.h.at',.int .i64 T.h.blank,.string s1,.string s2,.string s3,.slice (some ⟨kb,ko,none⟩) 2 kc,.slice la T.h.lead.length lc,.slice fa T.h.foot.length fc,.bool T.h.ht,.string s4] 29)
 go_wp2_with fail
 have hEu:=K.keep _ _ hE hb3
 refine (awake17_true K _ hEu).mono ?_
 rintro e w5 ⟨rfl,b5⟩
 go_wp2
 go_ret
 exact ⟨rfl,hb3.trans (b5.mono hb3.size)⟩
set_option maxRecDepth 100000 in
set_option maxHeartbeats 6400000 in
theorem bes_0_1_1 {Ev:World→Prop} {P:ByteArray→Prop} (K:TreeC Ev P) (bl sg wh:Int) (w:World) (hE:Ev w) (b:Nat) (hb:lowZ bl 4=(b:Int)) (hk:lowZ sg 4=0) (hw:lowZ wh 3=1) :
  Calls Tryz.prog 5 #[.int .i64 bl,.int .i64 sg,.int .i64 wh,.bool true] w fun e w'=>e=.returned (.bool true)∧Below w.heap.size w w':=by
 have hbr:=lowZ_range bl 4 (by omega)
 rw[hb] at hbr
 have hbC:=bsC_all (1+b) (bs_mem (by omega)) 0 (by decide) 1 (by decide) true (by decide)
 have hbS:=bsT_smp (1+b) (bs_mem (by omega)) 0 (by decide) 1 (by decide) true (by decide)
 go_enter Tryz.func5,Tryz.ntmps5
 go_wp2_with fail
 refine (Low_is (b:Int) bl 4 _ (by omega) (by omega) hb).mono ?_
 rintro e w1 ⟨rfl,rfl⟩
 go_wp2_with fail
 refine (Low_is 0 sg 4 _ (by omega) (by omega) hk).mono ?_
 rintro e w1 ⟨rfl,rfl⟩
 go_wp2_with fail
 refine (Low_is 1 wh 3 _ (by omega) (by omega) hw).mono ?_
 rintro e w1 ⟨rfl,rfl⟩
 go_wp2_with fail
 refine (lawBlanks_is (1+b) _ _ (by omega) (by omega)).mono ?_
 rintro e w1 ⟨rfl,rfl⟩
 obtain ⟨G,hG⟩:∃ G:ByteArray,G=⟨(List.replicate (1+b) (32:UInt8)).toArray⟩:=⟨_,rfl⟩
 have hGz:G.size=1+b:=by rw[hG];simp[ByteArray.size]
 have hGl:Hid (G.data.toList=spc (1+b)):=by rw[hG];rfl
 rw[←hG]
 clear hG
 go_wp2_with fail
 have hSz:((⟨#[45]⟩:ByteArray)++(G++(⟨#[9]⟩:ByteArray))++(⟨#[63,32,112]⟩:ByteArray)++(⟨#[10]⟩:ByteArray)).size=6+b+1:=by
  simp only[ByteArray.size_append,hGz]
  show _+_+_+_=_
  simp only[ByteArray.size,List.size_toArray,List.length_cons,List.length_nil]
  omega
 have hS:((⟨#[45]⟩:ByteArray)++(G++(⟨#[9]⟩:ByteArray))++(⟨#[63,32,112]⟩:ByteArray)++(⟨#[10]⟩:ByteArray))=mkB (bsT (1+b) 0 1 true):=mkB_eq (by
  simp only[ByteArray.data_append,Array.toList_append,hGl.out]
  simp[bsT,bsS,bsG,bsW])
 have hZ:TreeZ ((⟨#[45]⟩:ByteArray)++(G++(⟨#[9]⟩:ByteArray))++(⟨#[63,32,112]⟩:ByteArray)++(⟨#[10]⟩:ByteArray)) 0 false none [] ((1+(1+b):Nat):Int) 4:=by
  rw[hS]
  unfold bsC at hbC
  rw[if_neg (by decide),if_pos rfl] at hbC
  exact badX_is hbC
 have hSm:=Smp.of_eq hS hbS
 clear hbS hbC hS hGl
 refine (K.read _ _ _ _ _ _ _ _ (by omega) (K.smp _ hSm) (K.keep _ _ hE (below3 _ _ _ _)) hZ).mono ?_
 rintro e w2 ⟨cx,lx,rfl,ly,-,-,b2⟩
 obtain ⟨i1,i2,i3,i4,u1,u2,u3,a1,m1,d1,a2,m2,d2,a3,m3,d3,bo,u4,rfl⟩:=ly
 clear hZ
 have hb2:=(below3 _ _ _ _).trans (b2.mono (below3 _ _ _ _).size)
 go_wp2_with fail
 have hb3:=hb2.alloc hb2.size (.cells #[.int .i64 i1,.int .i64 i2,.int .i64 i3,.int .i64 i4,.string u1,.string u2,.string u3,.slice a1 m1 d1,.slice a2 m2 d2,.slice a3 m3 d3,.bool bo,.string u4] 29)
 have hEu:=K.keep _ _ hE hb3
 refine (awake17_true K _ hEu).mono ?_
 rintro e w5 ⟨rfl,b5⟩
 go_wp2
 go_ret
 exact ⟨rfl,hb3.trans (b5.mono hb3.size)⟩
set_option maxRecDepth 100000 in
set_option maxHeartbeats 6400000 in
theorem bes_0_1_0 {Ev:World→Prop} {P:ByteArray→Prop} (K:TreeC Ev P) (bl sg wh:Int) (w:World) (hE:Ev w) (b:Nat) (hb:lowZ bl 4=(b:Int)) (hk:lowZ sg 4=0) (hw:lowZ wh 3=1) :
  Calls Tryz.prog 5 #[.int .i64 bl,.int .i64 sg,.int .i64 wh,.bool false] w fun e w'=>e=.returned (.bool true)∧Below w.heap.size w w':=by
 have hbr:=lowZ_range bl 4 (by omega)
 rw[hb] at hbr
 have hbC:=bsC_all (1+b) (bs_mem (by omega)) 0 (by decide) 1 (by decide) false (by decide)
 have hbS:=bsT_smp (1+b) (bs_mem (by omega)) 0 (by decide) 1 (by decide) false (by decide)
 go_enter Tryz.func5,Tryz.ntmps5
 go_wp2_with fail
 refine (Low_is (b:Int) bl 4 _ (by omega) (by omega) hb).mono ?_
 rintro e w1 ⟨rfl,rfl⟩
 go_wp2_with fail
 refine (Low_is 0 sg 4 _ (by omega) (by omega) hk).mono ?_
 rintro e w1 ⟨rfl,rfl⟩
 go_wp2_with fail
 refine (Low_is 1 wh 3 _ (by omega) (by omega) hw).mono ?_
 rintro e w1 ⟨rfl,rfl⟩
 go_wp2_with fail
 refine (lawBlanks_is (1+b) _ _ (by omega) (by omega)).mono ?_
 rintro e w1 ⟨rfl,rfl⟩
 obtain ⟨G,hG⟩:∃ G:ByteArray,G=⟨(List.replicate (1+b) (32:UInt8)).toArray⟩:=⟨_,rfl⟩
 have hGz:G.size=1+b:=by rw[hG];simp[ByteArray.size]
 have hGl:Hid (G.data.toList=spc (1+b)):=by rw[hG];rfl
 rw[←hG]
 clear hG
 go_wp2_with fail
 refine (lawBlanks_is (1+(1+b)) _ _ (by omega) (by omega)).mono ?_
 rintro e w1 ⟨rfl,rfl⟩
 obtain ⟨G2,hG2⟩:∃ G2:ByteArray,G2=⟨(List.replicate (1+(1+b)) (32:UInt8)).toArray⟩:=⟨_,rfl⟩
 have hGz2:G2.size=1+(1+b):=by rw[hG2];simp[ByteArray.size]
 have hGl2:Hid (G2.data.toList=spc (1+(1+b))):=by rw[hG2];rfl
 rw[←hG2]
 clear hG2
 go_wp2_with fail
 have hSz:((⟨#[45]⟩:ByteArray)++G++(⟨#[63,32,112]⟩:ByteArray)++(⟨#[10]⟩:ByteArray)++G2++(⟨#[63,32,112]⟩:ByteArray)++(⟨#[10,45,32,120,10]⟩:ByteArray)).size=14+b+1+b+1:=by
  simp only[ByteArray.size_append,hGz,hGz2]
  show _+_+_+_+_+_+_=_
  simp only[ByteArray.size,List.size_toArray,List.length_cons,List.length_nil]
  omega
 have hS:((⟨#[45]⟩:ByteArray)++G++(⟨#[63,32,112]⟩:ByteArray)++(⟨#[10]⟩:ByteArray)++G2++(⟨#[63,32,112]⟩:ByteArray)++(⟨#[10,45,32,120,10]⟩:ByteArray))=mkB (bsT (1+b) 0 1 false):=mkB_eq (by
  simp only[ByteArray.data_append,Array.toList_append,hGl.out,hGl2.out]
  simp[bsT,bsS,bsG,bsW])
 obtain ⟨T,hP,hZ⟩:=goodX_is (show goodX (mkB (bsT (1+b) 0 1 false)) 0 false (bsP 0)=true by
  unfold bsC at hbC
  rw[if_neg (by decide),if_neg (by decide)] at hbC
  exact hbC)
 obtain ⟨a,c,hTk,hTa,hTc,hTn⟩:∃ a c,T.kids=[a,c]∧a.h.style=6∧c.h.text=[120]∧1<a.kids.length:=by
  unfold bsP at hP
  split at hP
  ·rename_i a c e
   simp at hP
   exact ⟨a,c,e,hP.1,hP.2.1,hP.2.2⟩
  ·cases hP
 rw[←hS] at hZ
 have hSm:=Smp.of_eq hS hbS
 clear hbS hbC hS hGl hP hGl2
 refine (K.read _ _ _ _ _ _ _ _ (by omega) (K.smp _ hSm) (K.keep _ _ hE (below3 _ _ _ _)) hZ).mono ?_
 rintro e w2 ⟨cx,lx,rfl,-,-,nx,b2⟩
 obtain ⟨kv,lv,fv,rfl,⟨la,lc,rfl,-,-,-⟩,⟨fa,fc,rfl,-,-,-⟩,⟨ka,kc,rfl,n1,n2,n3⟩⟩:=(nx _ rfl).open
 unfold maxLen at n2
 rw[hTk] at n1 n3 ⊢
 obtain ⟨kb,ko,rfl,hkb,hk⟩:=n3 (by show 0<2;decide)
 have n1:2≤kc:=n1
 rw[show ([a,c]:List NT).length=2 from rfl]
 obtain ⟨p0,p1,p2,p3,p4,p5,p6,p7,p8,p9,p10,p11,hN1,f0,f1,f2,f3,f4,f5,f6,f7,f8,f9,f10,f11⟩:=kid_cells hk (j:=0) (by show 0<2;decide)
 obtain ⟨q0,q1,q2,q3,q4,q5,q6,q7,q8,q9,q10,q11,hN2,g0,g1,g2,g3,g4,g5,g6,g7,g8,g9,g10,g11⟩:=kid_cells hk (j:=1) (by show 1<2;decide)
 obtain ⟨kv1,lv1,fv1,e1,-,-,⟨ka1,kc1,rfl,u1,u2,-⟩⟩:=hN1.open
 unfold headC at e1
 simp only[List.cons.injEq] at e1
 have t1:w2.cell? ⟨kb,ko+1,none⟩=some (.int .i64 6):=by
  have:=f1
  rw[e1.2.1] at this
  simpa [hTa] using this
 have t7:w2.cell? ⟨kb,ko+7,none⟩=some (.slice ka1 a.kids.length kc1):=by
  have:=f7
  rw[e1.2.2.2.2.2.2.2.1] at this
  simpa using this
 obtain ⟨kv2,lv2,fv2,e2,-⟩:=hN2.open
 unfold headC at e2
 simp only[List.cons.injEq] at e2
 have t18:w2.cell? ⟨kb,ko+12+6,none⟩=some (.string ⟨#[120]⟩):=by
  have:=g6
  rw[e2.2.2.2.2.2.2.1] at this
  simpa [hTc] using this
 obtain ⟨an,han⟩:∃ an,an=a.kids.length:=⟨_,rfl⟩
 have u1:a.kids.length≤kc1:=u1
 rw[←han] at t7 hTn u1
 unfold maxLen at u2
 clear e2 hTc
 have HKB:kb<w2.heap.size:=hkb
 clear f0 f1 f2 f3 f4 f5 f6 f7 f8 f9 f10 f11 g0 g1 g2 g3 g4 g5 g6 g7 g8 g9 g10 g11 hN2 hN1 hk n3 hkb nx hTk hTa hZ e1
 unfold headC
 generalize (⟨T.h.anchor.toArray⟩:ByteArray)=s1
 generalize (⟨T.h.tag.toArray⟩:ByteArray)=s2
 generalize (⟨T.h.text.toArray⟩:ByteArray)=s3
 generalize (⟨T.h.trail.toArray⟩:ByteArray)=s4
 have hb2:=(below3 _ _ _ _).trans (b2.mono (below3 _ _ _ _).size)
 have hb3:=hb2.alloc hb2.size (.cells #[.int .i64 T.h.kind,.int .i64 T.h.style,.int .i64 T.h.at',.int .i64 T.h.blank,.string s1,.string s2,.string s3,.slice (some ⟨kb,ko,none⟩) 2 kc,.slice la T.h.lead.length lc,.slice fa T.h.foot.length fc,.bool T.h.ht,.string s4] 29)
 go_wp2_with fail
 have hEu:=K.keep _ _ hE hb3
 refine (awake17_true K _ hEu).mono ?_
 rintro e w5 ⟨rfl,b5⟩
 go_wp2
 go_ret
 exact ⟨rfl,hb3.trans (b5.mono hb3.size)⟩
set_option maxRecDepth 100000 in
set_option maxHeartbeats 6400000 in
theorem bes_0_2_1 {Ev:World→Prop} {P:ByteArray→Prop} (K:TreeC Ev P) (bl sg wh:Int) (w:World) (hE:Ev w) (b:Nat) (hb:lowZ bl 4=(b:Int)) (hk:lowZ sg 4=0) (hw:lowZ wh 3=2) :
  Calls Tryz.prog 5 #[.int .i64 bl,.int .i64 sg,.int .i64 wh,.bool true] w fun e w'=>e=.returned (.bool true)∧Below w.heap.size w w':=by
 have hbr:=lowZ_range bl 4 (by omega)
 rw[hb] at hbr
 have hbC:=bsC_all (1+b) (bs_mem (by omega)) 0 (by decide) 2 (by decide) true (by decide)
 have hbS:=bsT_smp (1+b) (bs_mem (by omega)) 0 (by decide) 2 (by decide) true (by decide)
 go_enter Tryz.func5,Tryz.ntmps5
 go_wp2_with fail
 refine (Low_is (b:Int) bl 4 _ (by omega) (by omega) hb).mono ?_
 rintro e w1 ⟨rfl,rfl⟩
 go_wp2_with fail
 refine (Low_is 0 sg 4 _ (by omega) (by omega) hk).mono ?_
 rintro e w1 ⟨rfl,rfl⟩
 go_wp2_with fail
 refine (Low_is 2 wh 3 _ (by omega) (by omega) hw).mono ?_
 rintro e w1 ⟨rfl,rfl⟩
 go_wp2_with fail
 refine (lawBlanks_is (1+b) _ _ (by omega) (by omega)).mono ?_
 rintro e w1 ⟨rfl,rfl⟩
 obtain ⟨G,hG⟩:∃ G:ByteArray,G=⟨(List.replicate (1+b) (32:UInt8)).toArray⟩:=⟨_,rfl⟩
 have hGz:G.size=1+b:=by rw[hG];simp[ByteArray.size]
 have hGl:Hid (G.data.toList=spc (1+b)):=by rw[hG];rfl
 rw[←hG]
 clear hG
 go_wp2_with fail
 have hSz:((⟨#[45]⟩:ByteArray)++(G++(⟨#[9]⟩:ByteArray))++(⟨#[112,58,32,113]⟩:ByteArray)++(⟨#[10]⟩:ByteArray)).size=7+b+1:=by
  simp only[ByteArray.size_append,hGz]
  show _+_+_+_=_
  simp only[ByteArray.size,List.size_toArray,List.length_cons,List.length_nil]
  omega
 have hS:((⟨#[45]⟩:ByteArray)++(G++(⟨#[9]⟩:ByteArray))++(⟨#[112,58,32,113]⟩:ByteArray)++(⟨#[10]⟩:ByteArray))=mkB (bsT (1+b) 0 2 true):=mkB_eq (by
  simp only[ByteArray.data_append,Array.toList_append,hGl.out]
  simp[bsT,bsS,bsG,bsW])
 have hZ:TreeZ ((⟨#[45]⟩:ByteArray)++(G++(⟨#[9]⟩:ByteArray))++(⟨#[112,58,32,113]⟩:ByteArray)++(⟨#[10]⟩:ByteArray)) 0 false none [] ((1+(1+b):Nat):Int) 4:=by
  rw[hS]
  unfold bsC at hbC
  rw[if_neg (by decide),if_pos rfl] at hbC
  exact badX_is hbC
 have hSm:=Smp.of_eq hS hbS
 clear hbS hbC hS hGl
 refine (K.read _ _ _ _ _ _ _ _ (by omega) (K.smp _ hSm) (K.keep _ _ hE (below3 _ _ _ _)) hZ).mono ?_
 rintro e w2 ⟨cx,lx,rfl,ly,-,-,b2⟩
 obtain ⟨i1,i2,i3,i4,u1,u2,u3,a1,m1,d1,a2,m2,d2,a3,m3,d3,bo,u4,rfl⟩:=ly
 clear hZ
 have hb2:=(below3 _ _ _ _).trans (b2.mono (below3 _ _ _ _).size)
 go_wp2_with fail
 have hb3:=hb2.alloc hb2.size (.cells #[.int .i64 i1,.int .i64 i2,.int .i64 i3,.int .i64 i4,.string u1,.string u2,.string u3,.slice a1 m1 d1,.slice a2 m2 d2,.slice a3 m3 d3,.bool bo,.string u4] 29)
 have hEu:=K.keep _ _ hE hb3
 refine (awake17_true K _ hEu).mono ?_
 rintro e w5 ⟨rfl,b5⟩
 go_wp2
 go_ret
 exact ⟨rfl,hb3.trans (b5.mono hb3.size)⟩
set_option maxRecDepth 100000 in
set_option maxHeartbeats 6400000 in
theorem bes_0_2_0 {Ev:World→Prop} {P:ByteArray→Prop} (K:TreeC Ev P) (bl sg wh:Int) (w:World) (hE:Ev w) (b:Nat) (hb:lowZ bl 4=(b:Int)) (hk:lowZ sg 4=0) (hw:lowZ wh 3=2) :
  Calls Tryz.prog 5 #[.int .i64 bl,.int .i64 sg,.int .i64 wh,.bool false] w fun e w'=>e=.returned (.bool true)∧Below w.heap.size w w':=by
 have hbr:=lowZ_range bl 4 (by omega)
 rw[hb] at hbr
 have hbC:=bsC_all (1+b) (bs_mem (by omega)) 0 (by decide) 2 (by decide) false (by decide)
 have hbS:=bsT_smp (1+b) (bs_mem (by omega)) 0 (by decide) 2 (by decide) false (by decide)
 go_enter Tryz.func5,Tryz.ntmps5
 go_wp2_with fail
 refine (Low_is (b:Int) bl 4 _ (by omega) (by omega) hb).mono ?_
 rintro e w1 ⟨rfl,rfl⟩
 go_wp2_with fail
 refine (Low_is 0 sg 4 _ (by omega) (by omega) hk).mono ?_
 rintro e w1 ⟨rfl,rfl⟩
 go_wp2_with fail
 refine (Low_is 2 wh 3 _ (by omega) (by omega) hw).mono ?_
 rintro e w1 ⟨rfl,rfl⟩
 go_wp2_with fail
 refine (lawBlanks_is (1+b) _ _ (by omega) (by omega)).mono ?_
 rintro e w1 ⟨rfl,rfl⟩
 obtain ⟨G,hG⟩:∃ G:ByteArray,G=⟨(List.replicate (1+b) (32:UInt8)).toArray⟩:=⟨_,rfl⟩
 have hGz:G.size=1+b:=by rw[hG];simp[ByteArray.size]
 have hGl:Hid (G.data.toList=spc (1+b)):=by rw[hG];rfl
 rw[←hG]
 clear hG
 go_wp2_with fail
 refine (lawBlanks_is (1+(1+b)) _ _ (by omega) (by omega)).mono ?_
 rintro e w1 ⟨rfl,rfl⟩
 obtain ⟨G2,hG2⟩:∃ G2:ByteArray,G2=⟨(List.replicate (1+(1+b)) (32:UInt8)).toArray⟩:=⟨_,rfl⟩
 have hGz2:G2.size=1+(1+b):=by rw[hG2];simp[ByteArray.size]
 have hGl2:Hid (G2.data.toList=spc (1+(1+b))):=by rw[hG2];rfl
 rw[←hG2]
 clear hG2
 go_wp2_with fail
 have hSz:((⟨#[45]⟩:ByteArray)++G++(⟨#[112,58,32,113]⟩:ByteArray)++(⟨#[10]⟩:ByteArray)++G2++(⟨#[112,58,32,113]⟩:ByteArray)++(⟨#[10,45,32,120,10]⟩:ByteArray)).size=16+b+1+b+1:=by
  simp only[ByteArray.size_append,hGz,hGz2]
  show _+_+_+_+_+_+_=_
  simp only[ByteArray.size,List.size_toArray,List.length_cons,List.length_nil]
  omega
 have hS:((⟨#[45]⟩:ByteArray)++G++(⟨#[112,58,32,113]⟩:ByteArray)++(⟨#[10]⟩:ByteArray)++G2++(⟨#[112,58,32,113]⟩:ByteArray)++(⟨#[10,45,32,120,10]⟩:ByteArray))=mkB (bsT (1+b) 0 2 false):=mkB_eq (by
  simp only[ByteArray.data_append,Array.toList_append,hGl.out,hGl2.out]
  simp[bsT,bsS,bsG,bsW])
 obtain ⟨T,hP,hZ⟩:=goodX_is (show goodX (mkB (bsT (1+b) 0 2 false)) 0 false (bsP 0)=true by
  unfold bsC at hbC
  rw[if_neg (by decide),if_neg (by decide)] at hbC
  exact hbC)
 obtain ⟨a,c,hTk,hTa,hTc,hTn⟩:∃ a c,T.kids=[a,c]∧a.h.style=6∧c.h.text=[120]∧1<a.kids.length:=by
  unfold bsP at hP
  split at hP
  ·rename_i a c e
   simp at hP
   exact ⟨a,c,e,hP.1,hP.2.1,hP.2.2⟩
  ·cases hP
 rw[←hS] at hZ
 have hSm:=Smp.of_eq hS hbS
 clear hbS hbC hS hGl hP hGl2
 refine (K.read _ _ _ _ _ _ _ _ (by omega) (K.smp _ hSm) (K.keep _ _ hE (below3 _ _ _ _)) hZ).mono ?_
 rintro e w2 ⟨cx,lx,rfl,-,-,nx,b2⟩
 obtain ⟨kv,lv,fv,rfl,⟨la,lc,rfl,-,-,-⟩,⟨fa,fc,rfl,-,-,-⟩,⟨ka,kc,rfl,n1,n2,n3⟩⟩:=(nx _ rfl).open
 unfold maxLen at n2
 rw[hTk] at n1 n3 ⊢
 obtain ⟨kb,ko,rfl,hkb,hk⟩:=n3 (by show 0<2;decide)
 have n1:2≤kc:=n1
 rw[show ([a,c]:List NT).length=2 from rfl]
 obtain ⟨p0,p1,p2,p3,p4,p5,p6,p7,p8,p9,p10,p11,hN1,f0,f1,f2,f3,f4,f5,f6,f7,f8,f9,f10,f11⟩:=kid_cells hk (j:=0) (by show 0<2;decide)
 obtain ⟨q0,q1,q2,q3,q4,q5,q6,q7,q8,q9,q10,q11,hN2,g0,g1,g2,g3,g4,g5,g6,g7,g8,g9,g10,g11⟩:=kid_cells hk (j:=1) (by show 1<2;decide)
 obtain ⟨kv1,lv1,fv1,e1,-,-,⟨ka1,kc1,rfl,u1,u2,-⟩⟩:=hN1.open
 unfold headC at e1
 simp only[List.cons.injEq] at e1
 have t1:w2.cell? ⟨kb,ko+1,none⟩=some (.int .i64 6):=by
  have:=f1
  rw[e1.2.1] at this
  simpa [hTa] using this
 have t7:w2.cell? ⟨kb,ko+7,none⟩=some (.slice ka1 a.kids.length kc1):=by
  have:=f7
  rw[e1.2.2.2.2.2.2.2.1] at this
  simpa using this
 obtain ⟨kv2,lv2,fv2,e2,-⟩:=hN2.open
 unfold headC at e2
 simp only[List.cons.injEq] at e2
 have t18:w2.cell? ⟨kb,ko+12+6,none⟩=some (.string ⟨#[120]⟩):=by
  have:=g6
  rw[e2.2.2.2.2.2.2.1] at this
  simpa [hTc] using this
 obtain ⟨an,han⟩:∃ an,an=a.kids.length:=⟨_,rfl⟩
 have u1:a.kids.length≤kc1:=u1
 rw[←han] at t7 hTn u1
 unfold maxLen at u2
 clear e2 hTc
 have HKB:kb<w2.heap.size:=hkb
 clear f0 f1 f2 f3 f4 f5 f6 f7 f8 f9 f10 f11 g0 g1 g2 g3 g4 g5 g6 g7 g8 g9 g10 g11 hN2 hN1 hk n3 hkb nx hTk hTa hZ e1
 unfold headC
 generalize (⟨T.h.anchor.toArray⟩:ByteArray)=s1
 generalize (⟨T.h.tag.toArray⟩:ByteArray)=s2
 generalize (⟨T.h.text.toArray⟩:ByteArray)=s3
 generalize (⟨T.h.trail.toArray⟩:ByteArray)=s4
 have hb2:=(below3 _ _ _ _).trans (b2.mono (below3 _ _ _ _).size)
 have hb3:=hb2.alloc hb2.size (.cells #[.int .i64 T.h.kind,.int .i64 T.h.style,.int .i64 T.h.at',.int .i64 T.h.blank,.string s1,.string s2,.string s3,.slice (some ⟨kb,ko,none⟩) 2 kc,.slice la T.h.lead.length lc,.slice fa T.h.foot.length fc,.bool T.h.ht,.string s4] 29)
 go_wp2_with fail
 have hEu:=K.keep _ _ hE hb3
 refine (awake17_true K _ hEu).mono ?_
 rintro e w5 ⟨rfl,b5⟩
 go_wp2
 go_ret
 exact ⟨rfl,hb3.trans (b5.mono hb3.size)⟩
set_option maxRecDepth 100000 in
set_option maxHeartbeats 6400000 in
theorem bes_1_0_1 {Ev:World→Prop} {P:ByteArray→Prop} (K:TreeC Ev P) (bl sg wh:Int) (w:World) (hE:Ev w) (b:Nat) (hb:lowZ bl 4=(b:Int)) (hk:lowZ sg 4=1) (hw:lowZ wh 3=0) :
  Calls Tryz.prog 5 #[.int .i64 bl,.int .i64 sg,.int .i64 wh,.bool true] w fun e w'=>e=.returned (.bool true)∧Below w.heap.size w w':=by
 have hbr:=lowZ_range bl 4 (by omega)
 rw[hb] at hbr
 have hbC:=bsC_all (1+b) (bs_mem (by omega)) 1 (by decide) 0 (by decide) true (by decide)
 have hbS:=bsT_smp (1+b) (bs_mem (by omega)) 1 (by decide) 0 (by decide) true (by decide)
 go_enter Tryz.func5,Tryz.ntmps5
 go_wp2_with fail
 refine (Low_is (b:Int) bl 4 _ (by omega) (by omega) hb).mono ?_
 rintro e w1 ⟨rfl,rfl⟩
 go_wp2_with fail
 refine (Low_is 1 sg 4 _ (by omega) (by omega) hk).mono ?_
 rintro e w1 ⟨rfl,rfl⟩
 go_wp2_with fail
 refine (Low_is 0 wh 3 _ (by omega) (by omega) hw).mono ?_
 rintro e w1 ⟨rfl,rfl⟩
 go_wp2_with fail
 refine (lawBlanks_is (1+b) _ _ (by omega) (by omega)).mono ?_
 rintro e w1 ⟨rfl,rfl⟩
 obtain ⟨G,hG⟩:∃ G:ByteArray,G=⟨(List.replicate (1+b) (32:UInt8)).toArray⟩:=⟨_,rfl⟩
 have hGz:G.size=1+b:=by rw[hG];simp[ByteArray.size]
 have hGl:Hid (G.data.toList=spc (1+b)):=by rw[hG];rfl
 rw[←hG]
 clear hG
 go_wp2_with fail
 have hSz:((⟨#[63]⟩:ByteArray)++(G++(⟨#[9]⟩:ByteArray))++(⟨#[45,32,112]⟩:ByteArray)++(⟨#[10]⟩:ByteArray)).size=6+b+1:=by
  simp only[ByteArray.size_append,hGz]
  show _+_+_+_=_
  simp only[ByteArray.size,List.size_toArray,List.length_cons,List.length_nil]
  omega
 have hS:((⟨#[63]⟩:ByteArray)++(G++(⟨#[9]⟩:ByteArray))++(⟨#[45,32,112]⟩:ByteArray)++(⟨#[10]⟩:ByteArray))=mkB (bsT (1+b) 1 0 true):=mkB_eq (by
  simp only[ByteArray.data_append,Array.toList_append,hGl.out]
  simp[bsT,bsS,bsG,bsW])
 have hZ:TreeZ ((⟨#[63]⟩:ByteArray)++(G++(⟨#[9]⟩:ByteArray))++(⟨#[45,32,112]⟩:ByteArray)++(⟨#[10]⟩:ByteArray)) 0 false none [] ((1+(1+b):Nat):Int) 4:=by
  rw[hS]
  unfold bsC at hbC
  rw[if_neg (by decide),if_pos rfl] at hbC
  exact badX_is hbC
 have hSm:=Smp.of_eq hS hbS
 clear hbS hbC hS hGl
 refine (K.read _ _ _ _ _ _ _ _ (by omega) (K.smp _ hSm) (K.keep _ _ hE (below3 _ _ _ _)) hZ).mono ?_
 rintro e w2 ⟨cx,lx,rfl,ly,-,-,b2⟩
 obtain ⟨i1,i2,i3,i4,u1,u2,u3,a1,m1,d1,a2,m2,d2,a3,m3,d3,bo,u4,rfl⟩:=ly
 clear hZ
 have hb2:=(below3 _ _ _ _).trans (b2.mono (below3 _ _ _ _).size)
 go_wp2_with fail
 have hb3:=hb2.alloc hb2.size (.cells #[.int .i64 i1,.int .i64 i2,.int .i64 i3,.int .i64 i4,.string u1,.string u2,.string u3,.slice a1 m1 d1,.slice a2 m2 d2,.slice a3 m3 d3,.bool bo,.string u4] 29)
 have hEu:=K.keep _ _ hE hb3
 refine (awake17_true K _ hEu).mono ?_
 rintro e w5 ⟨rfl,b5⟩
 go_wp2
 go_ret
 exact ⟨rfl,hb3.trans (b5.mono hb3.size)⟩
set_option maxRecDepth 100000 in
set_option maxHeartbeats 6400000 in
theorem bes_1_0_0 {Ev:World→Prop} {P:ByteArray→Prop} (K:TreeC Ev P) (bl sg wh:Int) (w:World) (hE:Ev w) (b:Nat) (hb:lowZ bl 4=(b:Int)) (hk:lowZ sg 4=1) (hw:lowZ wh 3=0) :
  Calls Tryz.prog 5 #[.int .i64 bl,.int .i64 sg,.int .i64 wh,.bool false] w fun e w'=>e=.returned (.bool true)∧Below w.heap.size w w':=by
 have hbr:=lowZ_range bl 4 (by omega)
 rw[hb] at hbr
 have hbC:=bsC_all (1+b) (bs_mem (by omega)) 1 (by decide) 0 (by decide) false (by decide)
 have hbS:=bsT_smp (1+b) (bs_mem (by omega)) 1 (by decide) 0 (by decide) false (by decide)
 go_enter Tryz.func5,Tryz.ntmps5
 go_wp2_with fail
 refine (Low_is (b:Int) bl 4 _ (by omega) (by omega) hb).mono ?_
 rintro e w1 ⟨rfl,rfl⟩
 go_wp2_with fail
 refine (Low_is 1 sg 4 _ (by omega) (by omega) hk).mono ?_
 rintro e w1 ⟨rfl,rfl⟩
 go_wp2_with fail
 refine (Low_is 0 wh 3 _ (by omega) (by omega) hw).mono ?_
 rintro e w1 ⟨rfl,rfl⟩
 go_wp2_with fail
 refine (lawBlanks_is (1+b) _ _ (by omega) (by omega)).mono ?_
 rintro e w1 ⟨rfl,rfl⟩
 obtain ⟨G,hG⟩:∃ G:ByteArray,G=⟨(List.replicate (1+b) (32:UInt8)).toArray⟩:=⟨_,rfl⟩
 have hGz:G.size=1+b:=by rw[hG];simp[ByteArray.size]
 have hGl:Hid (G.data.toList=spc (1+b)):=by rw[hG];rfl
 rw[←hG]
 clear hG
 go_wp2_with fail
 have hSz:((⟨#[63]⟩:ByteArray)++G++(⟨#[45,32,112]⟩:ByteArray)++(⟨#[10]⟩:ByteArray)).size=5+b+1:=by
  simp only[ByteArray.size_append,hGz]
  show _+_+_+_=_
  simp only[ByteArray.size,List.size_toArray,List.length_cons,List.length_nil]
  omega
 have hS:((⟨#[63]⟩:ByteArray)++G++(⟨#[45,32,112]⟩:ByteArray)++(⟨#[10]⟩:ByteArray))=mkB (bsT (1+b) 1 0 false):=mkB_eq (by
  simp only[ByteArray.data_append,Array.toList_append,hGl.out]
  simp[bsT,bsS,bsG,bsW])
 obtain ⟨T,hP,hZ⟩:=goodX_is (show goodX (mkB (bsT (1+b) 1 0 false)) 0 false (bsP 1)=true by
  unfold bsC at hbC
  rw[if_neg (by decide),if_neg (by decide)] at hbC
  exact hbC)
 obtain ⟨a,c,hTk,hTa⟩:∃ a c,T.kids=[a,c]∧a.h.style=6:=by
  unfold bsP at hP
  split at hP
  ·rename_i a c e
   rw[Bool.and_eq_true,decide_eq_true_eq] at hP
   exact ⟨a,c,e,hP.1⟩
  ·cases hP
 rw[←hS] at hZ
 have hSm:=Smp.of_eq hS hbS
 clear hbS hbC hS hGl hP
 refine (K.read _ _ _ _ _ _ _ _ (by omega) (K.smp _ hSm) (K.keep _ _ hE (below3 _ _ _ _)) hZ).mono ?_
 rintro e w2 ⟨cx,lx,rfl,-,-,nx,b2⟩
 obtain ⟨kv,lv,fv,rfl,⟨la,lc,rfl,-,-,-⟩,⟨fa,fc,rfl,-,-,-⟩,⟨ka,kc,rfl,n1,n2,n3⟩⟩:=(nx _ rfl).open
 unfold maxLen at n2
 rw[hTk] at n1 n3 ⊢
 obtain ⟨kb,ko,rfl,hkb,hk⟩:=n3 (by show 0<2;decide)
 have n1:2≤kc:=n1
 rw[show ([a,c]:List NT).length=2 from rfl]
 obtain ⟨p0,p1,p2,p3,p4,p5,p6,p7,p8,p9,p10,p11,hN1,f0,f1,f2,f3,f4,f5,f6,f7,f8,f9,f10,f11⟩:=kid_cells hk (j:=0) (by show 0<2;decide)
 obtain ⟨q0,q1,q2,q3,q4,q5,q6,q7,q8,q9,q10,q11,hN2,g0,g1,g2,g3,g4,g5,g6,g7,g8,g9,g10,g11⟩:=kid_cells hk (j:=1) (by show 1<2;decide)
 obtain ⟨kv1,lv1,fv1,e1,-,-,⟨ka1,kc1,rfl,u1,u2,-⟩⟩:=hN1.open
 unfold headC at e1
 simp only[List.cons.injEq] at e1
 have t1:w2.cell? ⟨kb,ko+1,none⟩=some (.int .i64 6):=by
  have:=f1
  rw[e1.2.1] at this
  simpa [hTa] using this
 have t7:w2.cell? ⟨kb,ko+7,none⟩=some (.slice ka1 a.kids.length kc1):=by
  have:=f7
  rw[e1.2.2.2.2.2.2.2.1] at this
  simpa using this
 have HKB:kb<w2.heap.size:=hkb
 clear f0 f1 f2 f3 f4 f5 f6 f7 f8 f9 f10 f11 g0 g1 g2 g3 g4 g5 g6 g7 g8 g9 g10 g11 hN2 hN1 hk n3 hkb nx hTk hTa hZ e1
 unfold headC
 generalize (⟨T.h.anchor.toArray⟩:ByteArray)=s1
 generalize (⟨T.h.tag.toArray⟩:ByteArray)=s2
 generalize (⟨T.h.text.toArray⟩:ByteArray)=s3
 generalize (⟨T.h.trail.toArray⟩:ByteArray)=s4
 have hb2:=(below3 _ _ _ _).trans (b2.mono (below3 _ _ _ _).size)
 have hb3:=hb2.alloc hb2.size (.cells #[.int .i64 T.h.kind,.int .i64 T.h.style,.int .i64 T.h.at',.int .i64 T.h.blank,.string s1,.string s2,.string s3,.slice (some ⟨kb,ko,none⟩) 2 kc,.slice la T.h.lead.length lc,.slice fa T.h.foot.length fc,.bool T.h.ht,.string s4] 29)
 go_wp2_with fail
 have hEu:=K.keep _ _ hE hb3
 refine (awake17_true K _ hEu).mono ?_
 rintro e w5 ⟨rfl,b5⟩
 go_wp2
 go_ret
 exact ⟨rfl,hb3.trans (b5.mono hb3.size)⟩
set_option maxRecDepth 100000 in
set_option maxHeartbeats 6400000 in
theorem bes_1_1_1 {Ev:World→Prop} {P:ByteArray→Prop} (K:TreeC Ev P) (bl sg wh:Int) (w:World) (hE:Ev w) (b:Nat) (hb:lowZ bl 4=(b:Int)) (hk:lowZ sg 4=1) (hw:lowZ wh 3=1) :
  Calls Tryz.prog 5 #[.int .i64 bl,.int .i64 sg,.int .i64 wh,.bool true] w fun e w'=>e=.returned (.bool true)∧Below w.heap.size w w':=by
 have hbr:=lowZ_range bl 4 (by omega)
 rw[hb] at hbr
 have hbC:=bsC_all (1+b) (bs_mem (by omega)) 1 (by decide) 1 (by decide) true (by decide)
 have hbS:=bsT_smp (1+b) (bs_mem (by omega)) 1 (by decide) 1 (by decide) true (by decide)
 go_enter Tryz.func5,Tryz.ntmps5
 go_wp2_with fail
 refine (Low_is (b:Int) bl 4 _ (by omega) (by omega) hb).mono ?_
 rintro e w1 ⟨rfl,rfl⟩
 go_wp2_with fail
 refine (Low_is 1 sg 4 _ (by omega) (by omega) hk).mono ?_
 rintro e w1 ⟨rfl,rfl⟩
 go_wp2_with fail
 refine (Low_is 1 wh 3 _ (by omega) (by omega) hw).mono ?_
 rintro e w1 ⟨rfl,rfl⟩
 go_wp2_with fail
 refine (lawBlanks_is (1+b) _ _ (by omega) (by omega)).mono ?_
 rintro e w1 ⟨rfl,rfl⟩
 obtain ⟨G,hG⟩:∃ G:ByteArray,G=⟨(List.replicate (1+b) (32:UInt8)).toArray⟩:=⟨_,rfl⟩
 have hGz:G.size=1+b:=by rw[hG];simp[ByteArray.size]
 have hGl:Hid (G.data.toList=spc (1+b)):=by rw[hG];rfl
 rw[←hG]
 clear hG
 go_wp2_with fail
 have hSz:((⟨#[63]⟩:ByteArray)++(G++(⟨#[9]⟩:ByteArray))++(⟨#[63,32,112]⟩:ByteArray)++(⟨#[10]⟩:ByteArray)).size=6+b+1:=by
  simp only[ByteArray.size_append,hGz]
  show _+_+_+_=_
  simp only[ByteArray.size,List.size_toArray,List.length_cons,List.length_nil]
  omega
 have hS:((⟨#[63]⟩:ByteArray)++(G++(⟨#[9]⟩:ByteArray))++(⟨#[63,32,112]⟩:ByteArray)++(⟨#[10]⟩:ByteArray))=mkB (bsT (1+b) 1 1 true):=mkB_eq (by
  simp only[ByteArray.data_append,Array.toList_append,hGl.out]
  simp[bsT,bsS,bsG,bsW])
 have hZ:TreeZ ((⟨#[63]⟩:ByteArray)++(G++(⟨#[9]⟩:ByteArray))++(⟨#[63,32,112]⟩:ByteArray)++(⟨#[10]⟩:ByteArray)) 0 false none [] ((1+(1+b):Nat):Int) 4:=by
  rw[hS]
  unfold bsC at hbC
  rw[if_neg (by decide),if_pos rfl] at hbC
  exact badX_is hbC
 have hSm:=Smp.of_eq hS hbS
 clear hbS hbC hS hGl
 refine (K.read _ _ _ _ _ _ _ _ (by omega) (K.smp _ hSm) (K.keep _ _ hE (below3 _ _ _ _)) hZ).mono ?_
 rintro e w2 ⟨cx,lx,rfl,ly,-,-,b2⟩
 obtain ⟨i1,i2,i3,i4,u1,u2,u3,a1,m1,d1,a2,m2,d2,a3,m3,d3,bo,u4,rfl⟩:=ly
 clear hZ
 have hb2:=(below3 _ _ _ _).trans (b2.mono (below3 _ _ _ _).size)
 go_wp2_with fail
 have hb3:=hb2.alloc hb2.size (.cells #[.int .i64 i1,.int .i64 i2,.int .i64 i3,.int .i64 i4,.string u1,.string u2,.string u3,.slice a1 m1 d1,.slice a2 m2 d2,.slice a3 m3 d3,.bool bo,.string u4] 29)
 have hEu:=K.keep _ _ hE hb3
 refine (awake17_true K _ hEu).mono ?_
 rintro e w5 ⟨rfl,b5⟩
 go_wp2
 go_ret
 exact ⟨rfl,hb3.trans (b5.mono hb3.size)⟩
set_option maxRecDepth 100000 in
set_option maxHeartbeats 6400000 in
theorem bes_1_1_0 {Ev:World→Prop} {P:ByteArray→Prop} (K:TreeC Ev P) (bl sg wh:Int) (w:World) (hE:Ev w) (b:Nat) (hb:lowZ bl 4=(b:Int)) (hk:lowZ sg 4=1) (hw:lowZ wh 3=1) :
  Calls Tryz.prog 5 #[.int .i64 bl,.int .i64 sg,.int .i64 wh,.bool false] w fun e w'=>e=.returned (.bool true)∧Below w.heap.size w w':=by
 have hbr:=lowZ_range bl 4 (by omega)
 rw[hb] at hbr
 have hbC:=bsC_all (1+b) (bs_mem (by omega)) 1 (by decide) 1 (by decide) false (by decide)
 have hbS:=bsT_smp (1+b) (bs_mem (by omega)) 1 (by decide) 1 (by decide) false (by decide)
 go_enter Tryz.func5,Tryz.ntmps5
 go_wp2_with fail
 refine (Low_is (b:Int) bl 4 _ (by omega) (by omega) hb).mono ?_
 rintro e w1 ⟨rfl,rfl⟩
 go_wp2_with fail
 refine (Low_is 1 sg 4 _ (by omega) (by omega) hk).mono ?_
 rintro e w1 ⟨rfl,rfl⟩
 go_wp2_with fail
 refine (Low_is 1 wh 3 _ (by omega) (by omega) hw).mono ?_
 rintro e w1 ⟨rfl,rfl⟩
 go_wp2_with fail
 refine (lawBlanks_is (1+b) _ _ (by omega) (by omega)).mono ?_
 rintro e w1 ⟨rfl,rfl⟩
 obtain ⟨G,hG⟩:∃ G:ByteArray,G=⟨(List.replicate (1+b) (32:UInt8)).toArray⟩:=⟨_,rfl⟩
 have hGz:G.size=1+b:=by rw[hG];simp[ByteArray.size]
 have hGl:Hid (G.data.toList=spc (1+b)):=by rw[hG];rfl
 rw[←hG]
 clear hG
 go_wp2_with fail
 have hSz:((⟨#[63]⟩:ByteArray)++G++(⟨#[63,32,112]⟩:ByteArray)++(⟨#[10]⟩:ByteArray)).size=5+b+1:=by
  simp only[ByteArray.size_append,hGz]
  show _+_+_+_=_
  simp only[ByteArray.size,List.size_toArray,List.length_cons,List.length_nil]
  omega
 have hS:((⟨#[63]⟩:ByteArray)++G++(⟨#[63,32,112]⟩:ByteArray)++(⟨#[10]⟩:ByteArray))=mkB (bsT (1+b) 1 1 false):=mkB_eq (by
  simp only[ByteArray.data_append,Array.toList_append,hGl.out]
  simp[bsT,bsS,bsG,bsW])
 obtain ⟨T,hP,hZ⟩:=goodX_is (show goodX (mkB (bsT (1+b) 1 1 false)) 0 false (bsP 1)=true by
  unfold bsC at hbC
  rw[if_neg (by decide),if_neg (by decide)] at hbC
  exact hbC)
 obtain ⟨a,c,hTk,hTa⟩:∃ a c,T.kids=[a,c]∧a.h.style=6:=by
  unfold bsP at hP
  split at hP
  ·rename_i a c e
   rw[Bool.and_eq_true,decide_eq_true_eq] at hP
   exact ⟨a,c,e,hP.1⟩
  ·cases hP
 rw[←hS] at hZ
 have hSm:=Smp.of_eq hS hbS
 clear hbS hbC hS hGl hP
 refine (K.read _ _ _ _ _ _ _ _ (by omega) (K.smp _ hSm) (K.keep _ _ hE (below3 _ _ _ _)) hZ).mono ?_
 rintro e w2 ⟨cx,lx,rfl,-,-,nx,b2⟩
 obtain ⟨kv,lv,fv,rfl,⟨la,lc,rfl,-,-,-⟩,⟨fa,fc,rfl,-,-,-⟩,⟨ka,kc,rfl,n1,n2,n3⟩⟩:=(nx _ rfl).open
 unfold maxLen at n2
 rw[hTk] at n1 n3 ⊢
 obtain ⟨kb,ko,rfl,hkb,hk⟩:=n3 (by show 0<2;decide)
 have n1:2≤kc:=n1
 rw[show ([a,c]:List NT).length=2 from rfl]
 obtain ⟨p0,p1,p2,p3,p4,p5,p6,p7,p8,p9,p10,p11,hN1,f0,f1,f2,f3,f4,f5,f6,f7,f8,f9,f10,f11⟩:=kid_cells hk (j:=0) (by show 0<2;decide)
 obtain ⟨q0,q1,q2,q3,q4,q5,q6,q7,q8,q9,q10,q11,hN2,g0,g1,g2,g3,g4,g5,g6,g7,g8,g9,g10,g11⟩:=kid_cells hk (j:=1) (by show 1<2;decide)
 obtain ⟨kv1,lv1,fv1,e1,-,-,⟨ka1,kc1,rfl,u1,u2,-⟩⟩:=hN1.open
 unfold headC at e1
 simp only[List.cons.injEq] at e1
 have t1:w2.cell? ⟨kb,ko+1,none⟩=some (.int .i64 6):=by
  have:=f1
  rw[e1.2.1] at this
  simpa [hTa] using this
 have t7:w2.cell? ⟨kb,ko+7,none⟩=some (.slice ka1 a.kids.length kc1):=by
  have:=f7
  rw[e1.2.2.2.2.2.2.2.1] at this
  simpa using this
 have HKB:kb<w2.heap.size:=hkb
 clear f0 f1 f2 f3 f4 f5 f6 f7 f8 f9 f10 f11 g0 g1 g2 g3 g4 g5 g6 g7 g8 g9 g10 g11 hN2 hN1 hk n3 hkb nx hTk hTa hZ e1
 unfold headC
 generalize (⟨T.h.anchor.toArray⟩:ByteArray)=s1
 generalize (⟨T.h.tag.toArray⟩:ByteArray)=s2
 generalize (⟨T.h.text.toArray⟩:ByteArray)=s3
 generalize (⟨T.h.trail.toArray⟩:ByteArray)=s4
 have hb2:=(below3 _ _ _ _).trans (b2.mono (below3 _ _ _ _).size)
 have hb3:=hb2.alloc hb2.size (.cells #[.int .i64 T.h.kind,.int .i64 T.h.style,.int .i64 T.h.at',.int .i64 T.h.blank,.string s1,.string s2,.string s3,.slice (some ⟨kb,ko,none⟩) 2 kc,.slice la T.h.lead.length lc,.slice fa T.h.foot.length fc,.bool T.h.ht,.string s4] 29)
 go_wp2_with fail
 have hEu:=K.keep _ _ hE hb3
 refine (awake17_true K _ hEu).mono ?_
 rintro e w5 ⟨rfl,b5⟩
 go_wp2
 go_ret
 exact ⟨rfl,hb3.trans (b5.mono hb3.size)⟩
set_option maxRecDepth 100000 in
set_option maxHeartbeats 6400000 in
theorem bes_1_2_1 {Ev:World→Prop} {P:ByteArray→Prop} (K:TreeC Ev P) (bl sg wh:Int) (w:World) (hE:Ev w) (b:Nat) (hb:lowZ bl 4=(b:Int)) (hk:lowZ sg 4=1) (hw:lowZ wh 3=2) :
  Calls Tryz.prog 5 #[.int .i64 bl,.int .i64 sg,.int .i64 wh,.bool true] w fun e w'=>e=.returned (.bool true)∧Below w.heap.size w w':=by
 have hbr:=lowZ_range bl 4 (by omega)
 rw[hb] at hbr
 have hbC:=bsC_all (1+b) (bs_mem (by omega)) 1 (by decide) 2 (by decide) true (by decide)
 have hbS:=bsT_smp (1+b) (bs_mem (by omega)) 1 (by decide) 2 (by decide) true (by decide)
 go_enter Tryz.func5,Tryz.ntmps5
 go_wp2_with fail
 refine (Low_is (b:Int) bl 4 _ (by omega) (by omega) hb).mono ?_
 rintro e w1 ⟨rfl,rfl⟩
 go_wp2_with fail
 refine (Low_is 1 sg 4 _ (by omega) (by omega) hk).mono ?_
 rintro e w1 ⟨rfl,rfl⟩
 go_wp2_with fail
 refine (Low_is 2 wh 3 _ (by omega) (by omega) hw).mono ?_
 rintro e w1 ⟨rfl,rfl⟩
 go_wp2_with fail
 refine (lawBlanks_is (1+b) _ _ (by omega) (by omega)).mono ?_
 rintro e w1 ⟨rfl,rfl⟩
 obtain ⟨G,hG⟩:∃ G:ByteArray,G=⟨(List.replicate (1+b) (32:UInt8)).toArray⟩:=⟨_,rfl⟩
 have hGz:G.size=1+b:=by rw[hG];simp[ByteArray.size]
 have hGl:Hid (G.data.toList=spc (1+b)):=by rw[hG];rfl
 rw[←hG]
 clear hG
 go_wp2_with fail
 have hSz:((⟨#[63]⟩:ByteArray)++(G++(⟨#[9]⟩:ByteArray))++(⟨#[112,58,32,113]⟩:ByteArray)++(⟨#[10]⟩:ByteArray)).size=7+b+1:=by
  simp only[ByteArray.size_append,hGz]
  show _+_+_+_=_
  simp only[ByteArray.size,List.size_toArray,List.length_cons,List.length_nil]
  omega
 have hS:((⟨#[63]⟩:ByteArray)++(G++(⟨#[9]⟩:ByteArray))++(⟨#[112,58,32,113]⟩:ByteArray)++(⟨#[10]⟩:ByteArray))=mkB (bsT (1+b) 1 2 true):=mkB_eq (by
  simp only[ByteArray.data_append,Array.toList_append,hGl.out]
  simp[bsT,bsS,bsG,bsW])
 have hZ:TreeZ ((⟨#[63]⟩:ByteArray)++(G++(⟨#[9]⟩:ByteArray))++(⟨#[112,58,32,113]⟩:ByteArray)++(⟨#[10]⟩:ByteArray)) 0 false none [] ((1+(1+b):Nat):Int) 4:=by
  rw[hS]
  unfold bsC at hbC
  rw[if_neg (by decide),if_pos rfl] at hbC
  exact badX_is hbC
 have hSm:=Smp.of_eq hS hbS
 clear hbS hbC hS hGl
 refine (K.read _ _ _ _ _ _ _ _ (by omega) (K.smp _ hSm) (K.keep _ _ hE (below3 _ _ _ _)) hZ).mono ?_
 rintro e w2 ⟨cx,lx,rfl,ly,-,-,b2⟩
 obtain ⟨i1,i2,i3,i4,u1,u2,u3,a1,m1,d1,a2,m2,d2,a3,m3,d3,bo,u4,rfl⟩:=ly
 clear hZ
 have hb2:=(below3 _ _ _ _).trans (b2.mono (below3 _ _ _ _).size)
 go_wp2_with fail
 have hb3:=hb2.alloc hb2.size (.cells #[.int .i64 i1,.int .i64 i2,.int .i64 i3,.int .i64 i4,.string u1,.string u2,.string u3,.slice a1 m1 d1,.slice a2 m2 d2,.slice a3 m3 d3,.bool bo,.string u4] 29)
 have hEu:=K.keep _ _ hE hb3
 refine (awake17_true K _ hEu).mono ?_
 rintro e w5 ⟨rfl,b5⟩
 go_wp2
 go_ret
 exact ⟨rfl,hb3.trans (b5.mono hb3.size)⟩
set_option maxRecDepth 100000 in
set_option maxHeartbeats 6400000 in
theorem bes_1_2_0 {Ev:World→Prop} {P:ByteArray→Prop} (K:TreeC Ev P) (bl sg wh:Int) (w:World) (hE:Ev w) (b:Nat) (hb:lowZ bl 4=(b:Int)) (hk:lowZ sg 4=1) (hw:lowZ wh 3=2) :
  Calls Tryz.prog 5 #[.int .i64 bl,.int .i64 sg,.int .i64 wh,.bool false] w fun e w'=>e=.returned (.bool true)∧Below w.heap.size w w':=by
 have hbr:=lowZ_range bl 4 (by omega)
 rw[hb] at hbr
 have hbC:=bsC_all (1+b) (bs_mem (by omega)) 1 (by decide) 2 (by decide) false (by decide)
 have hbS:=bsT_smp (1+b) (bs_mem (by omega)) 1 (by decide) 2 (by decide) false (by decide)
 go_enter Tryz.func5,Tryz.ntmps5
 go_wp2_with fail
 refine (Low_is (b:Int) bl 4 _ (by omega) (by omega) hb).mono ?_
 rintro e w1 ⟨rfl,rfl⟩
 go_wp2_with fail
 refine (Low_is 1 sg 4 _ (by omega) (by omega) hk).mono ?_
 rintro e w1 ⟨rfl,rfl⟩
 go_wp2_with fail
 refine (Low_is 2 wh 3 _ (by omega) (by omega) hw).mono ?_
 rintro e w1 ⟨rfl,rfl⟩
 go_wp2_with fail
 refine (lawBlanks_is (1+b) _ _ (by omega) (by omega)).mono ?_
 rintro e w1 ⟨rfl,rfl⟩
 obtain ⟨G,hG⟩:∃ G:ByteArray,G=⟨(List.replicate (1+b) (32:UInt8)).toArray⟩:=⟨_,rfl⟩
 have hGz:G.size=1+b:=by rw[hG];simp[ByteArray.size]
 have hGl:Hid (G.data.toList=spc (1+b)):=by rw[hG];rfl
 rw[←hG]
 clear hG
 go_wp2_with fail
 have hSz:((⟨#[63]⟩:ByteArray)++G++(⟨#[112,58,32,113]⟩:ByteArray)++(⟨#[10]⟩:ByteArray)).size=6+b+1:=by
  simp only[ByteArray.size_append,hGz]
  show _+_+_+_=_
  simp only[ByteArray.size,List.size_toArray,List.length_cons,List.length_nil]
  omega
 have hS:((⟨#[63]⟩:ByteArray)++G++(⟨#[112,58,32,113]⟩:ByteArray)++(⟨#[10]⟩:ByteArray))=mkB (bsT (1+b) 1 2 false):=mkB_eq (by
  simp only[ByteArray.data_append,Array.toList_append,hGl.out]
  simp[bsT,bsS,bsG,bsW])
 obtain ⟨T,hP,hZ⟩:=goodX_is (show goodX (mkB (bsT (1+b) 1 2 false)) 0 false (bsP 1)=true by
  unfold bsC at hbC
  rw[if_neg (by decide),if_neg (by decide)] at hbC
  exact hbC)
 obtain ⟨a,c,hTk,hTa⟩:∃ a c,T.kids=[a,c]∧a.h.style=6:=by
  unfold bsP at hP
  split at hP
  ·rename_i a c e
   rw[Bool.and_eq_true,decide_eq_true_eq] at hP
   exact ⟨a,c,e,hP.1⟩
  ·cases hP
 rw[←hS] at hZ
 have hSm:=Smp.of_eq hS hbS
 clear hbS hbC hS hGl hP
 refine (K.read _ _ _ _ _ _ _ _ (by omega) (K.smp _ hSm) (K.keep _ _ hE (below3 _ _ _ _)) hZ).mono ?_
 rintro e w2 ⟨cx,lx,rfl,-,-,nx,b2⟩
 obtain ⟨kv,lv,fv,rfl,⟨la,lc,rfl,-,-,-⟩,⟨fa,fc,rfl,-,-,-⟩,⟨ka,kc,rfl,n1,n2,n3⟩⟩:=(nx _ rfl).open
 unfold maxLen at n2
 rw[hTk] at n1 n3 ⊢
 obtain ⟨kb,ko,rfl,hkb,hk⟩:=n3 (by show 0<2;decide)
 have n1:2≤kc:=n1
 rw[show ([a,c]:List NT).length=2 from rfl]
 obtain ⟨p0,p1,p2,p3,p4,p5,p6,p7,p8,p9,p10,p11,hN1,f0,f1,f2,f3,f4,f5,f6,f7,f8,f9,f10,f11⟩:=kid_cells hk (j:=0) (by show 0<2;decide)
 obtain ⟨q0,q1,q2,q3,q4,q5,q6,q7,q8,q9,q10,q11,hN2,g0,g1,g2,g3,g4,g5,g6,g7,g8,g9,g10,g11⟩:=kid_cells hk (j:=1) (by show 1<2;decide)
 obtain ⟨kv1,lv1,fv1,e1,-,-,⟨ka1,kc1,rfl,u1,u2,-⟩⟩:=hN1.open
 unfold headC at e1
 simp only[List.cons.injEq] at e1
 have t1:w2.cell? ⟨kb,ko+1,none⟩=some (.int .i64 6):=by
  have:=f1
  rw[e1.2.1] at this
  simpa [hTa] using this
 have t7:w2.cell? ⟨kb,ko+7,none⟩=some (.slice ka1 a.kids.length kc1):=by
  have:=f7
  rw[e1.2.2.2.2.2.2.2.1] at this
  simpa using this
 have HKB:kb<w2.heap.size:=hkb
 clear f0 f1 f2 f3 f4 f5 f6 f7 f8 f9 f10 f11 g0 g1 g2 g3 g4 g5 g6 g7 g8 g9 g10 g11 hN2 hN1 hk n3 hkb nx hTk hTa hZ e1
 unfold headC
 generalize (⟨T.h.anchor.toArray⟩:ByteArray)=s1
 generalize (⟨T.h.tag.toArray⟩:ByteArray)=s2
 generalize (⟨T.h.text.toArray⟩:ByteArray)=s3
 generalize (⟨T.h.trail.toArray⟩:ByteArray)=s4
 have hb2:=(below3 _ _ _ _).trans (b2.mono (below3 _ _ _ _).size)
 have hb3:=hb2.alloc hb2.size (.cells #[.int .i64 T.h.kind,.int .i64 T.h.style,.int .i64 T.h.at',.int .i64 T.h.blank,.string s1,.string s2,.string s3,.slice (some ⟨kb,ko,none⟩) 2 kc,.slice la T.h.lead.length lc,.slice fa T.h.foot.length fc,.bool T.h.ht,.string s4] 29)
 go_wp2_with fail
 have hEu:=K.keep _ _ hE hb3
 refine (awake17_true K _ hEu).mono ?_
 rintro e w5 ⟨rfl,b5⟩
 go_wp2
 go_ret
 exact ⟨rfl,hb3.trans (b5.mono hb3.size)⟩
set_option maxRecDepth 100000 in
set_option maxHeartbeats 6400000 in
theorem bes_2_0_1 {Ev:World→Prop} {P:ByteArray→Prop} (K:TreeC Ev P) (bl sg wh:Int) (w:World) (hE:Ev w) (b:Nat) (hb:lowZ bl 4=(b:Int)) (hk:lowZ sg 4=2) (hw:lowZ wh 3=0) :
  Calls Tryz.prog 5 #[.int .i64 bl,.int .i64 sg,.int .i64 wh,.bool true] w fun e w'=>e=.returned (.bool true)∧Below w.heap.size w w':=by
 have hbr:=lowZ_range bl 4 (by omega)
 rw[hb] at hbr
 have hbC:=bsC_all (1+b) (bs_mem (by omega)) 2 (by decide) 0 (by decide) true (by decide)
 have hbS:=bsT_smp (1+b) (bs_mem (by omega)) 2 (by decide) 0 (by decide) true (by decide)
 go_enter Tryz.func5,Tryz.ntmps5
 go_wp2_with fail
 refine (Low_is (b:Int) bl 4 _ (by omega) (by omega) hb).mono ?_
 rintro e w1 ⟨rfl,rfl⟩
 go_wp2_with fail
 refine (Low_is 2 sg 4 _ (by omega) (by omega) hk).mono ?_
 rintro e w1 ⟨rfl,rfl⟩
 go_wp2_with fail
 refine (Low_is 0 wh 3 _ (by omega) (by omega) hw).mono ?_
 rintro e w1 ⟨rfl,rfl⟩
 go_wp2_with fail
 refine (lawBlanks_is (1+b) _ _ (by omega) (by omega)).mono ?_
 rintro e w1 ⟨rfl,rfl⟩
 obtain ⟨G,hG⟩:∃ G:ByteArray,G=⟨(List.replicate (1+b) (32:UInt8)).toArray⟩:=⟨_,rfl⟩
 have hGz:G.size=1+b:=by rw[hG];simp[ByteArray.size]
 have hGl:Hid (G.data.toList=spc (1+b)):=by rw[hG];rfl
 rw[←hG]
 clear hG
 go_wp2_with fail
 have hSz:((⟨#[107,58]⟩:ByteArray)++(G++(⟨#[9]⟩:ByteArray))++(⟨#[45,32,112]⟩:ByteArray)++(⟨#[10]⟩:ByteArray)).size=7+b+1:=by
  simp only[ByteArray.size_append,hGz]
  show _+_+_+_=_
  simp only[ByteArray.size,List.size_toArray,List.length_cons,List.length_nil]
  omega
 have hS:((⟨#[107,58]⟩:ByteArray)++(G++(⟨#[9]⟩:ByteArray))++(⟨#[45,32,112]⟩:ByteArray)++(⟨#[10]⟩:ByteArray))=mkB (bsT (1+b) 2 0 true):=mkB_eq (by
  simp only[ByteArray.data_append,Array.toList_append,hGl.out]
  simp[bsT,bsS,bsG,bsW])
 have hl:(bsT (1+b) 2 0 true).length=7+b+1:=by rw[←mkB_size,←hS,hSz]
 have hZ:TreeZ ((⟨#[107,58]⟩:ByteArray)++(G++(⟨#[9]⟩:ByteArray))++(⟨#[45,32,112]⟩:ByteArray)++(⟨#[10]⟩:ByteArray)) 0 false none [] ((3+b+1:Nat):Int) 5:=by
  rw[hS]
  have:=badX_is (show badX (mkB (bsT (1+b) 2 0 true)) (if 2=3 then 3 else 0) (decide (2=3)) ((bsT (1+b) 2 0 true).length-(bsW 0).length-1:Nat) 5=true from hbC)
  rw[hl] at this
  rw[show 7+b+1-(bsW 0).length-1=3+b+1 by show 7+b+1-3-1=_;omega] at this
  exact this
 have hSm:=Smp.of_eq hS hbS
 clear hbS hbC hS hGl hl
 refine (K.read _ _ _ _ _ _ _ _ (by omega) (K.smp _ hSm) (K.keep _ _ hE (below3 _ _ _ _)) hZ).mono ?_
 rintro e w2 ⟨cx,lx,rfl,ly,-,-,b2⟩
 obtain ⟨i1,i2,i3,i4,u1,u2,u3,a1,m1,d1,a2,m2,d2,a3,m3,d3,bo,u4,rfl⟩:=ly
 clear hZ
 have hb2:=(below3 _ _ _ _).trans (b2.mono (below3 _ _ _ _).size)
 go_wp2_with fail
 have hb3:=hb2.alloc hb2.size (.cells #[.int .i64 i1,.int .i64 i2,.int .i64 i3,.int .i64 i4,.string u1,.string u2,.string u3,.slice a1 m1 d1,.slice a2 m2 d2,.slice a3 m3 d3,.bool bo,.string u4] 29)
 have hEu:=K.keep _ _ hE hb3
 refine (awake17_true K _ hEu).mono ?_
 rintro e w5 ⟨rfl,b5⟩
 go_wp2
 go_ret
 exact ⟨rfl,hb3.trans (b5.mono hb3.size)⟩
set_option maxRecDepth 100000 in
set_option maxHeartbeats 6400000 in
theorem bes_2_0_0 {Ev:World→Prop} {P:ByteArray→Prop} (K:TreeC Ev P) (bl sg wh:Int) (w:World) (hE:Ev w) (b:Nat) (hb:lowZ bl 4=(b:Int)) (hk:lowZ sg 4=2) (hw:lowZ wh 3=0) :
  Calls Tryz.prog 5 #[.int .i64 bl,.int .i64 sg,.int .i64 wh,.bool false] w fun e w'=>e=.returned (.bool true)∧Below w.heap.size w w':=by
 have hbr:=lowZ_range bl 4 (by omega)
 rw[hb] at hbr
 have hbC:=bsC_all (1+b) (bs_mem (by omega)) 2 (by decide) 0 (by decide) false (by decide)
 have hbS:=bsT_smp (1+b) (bs_mem (by omega)) 2 (by decide) 0 (by decide) false (by decide)
 go_enter Tryz.func5,Tryz.ntmps5
 go_wp2_with fail
 refine (Low_is (b:Int) bl 4 _ (by omega) (by omega) hb).mono ?_
 rintro e w1 ⟨rfl,rfl⟩
 go_wp2_with fail
 refine (Low_is 2 sg 4 _ (by omega) (by omega) hk).mono ?_
 rintro e w1 ⟨rfl,rfl⟩
 go_wp2_with fail
 refine (Low_is 0 wh 3 _ (by omega) (by omega) hw).mono ?_
 rintro e w1 ⟨rfl,rfl⟩
 go_wp2_with fail
 refine (lawBlanks_is (1+b) _ _ (by omega) (by omega)).mono ?_
 rintro e w1 ⟨rfl,rfl⟩
 obtain ⟨G,hG⟩:∃ G:ByteArray,G=⟨(List.replicate (1+b) (32:UInt8)).toArray⟩:=⟨_,rfl⟩
 have hGz:G.size=1+b:=by rw[hG];simp[ByteArray.size]
 have hGl:Hid (G.data.toList=spc (1+b)):=by rw[hG];rfl
 rw[←hG]
 clear hG
 go_wp2_with fail
 have hSz:((⟨#[107,58]⟩:ByteArray)++G++(⟨#[45,32,112]⟩:ByteArray)++(⟨#[10]⟩:ByteArray)).size=6+b+1:=by
  simp only[ByteArray.size_append,hGz]
  show _+_+_+_=_
  simp only[ByteArray.size,List.size_toArray,List.length_cons,List.length_nil]
  omega
 have hS:((⟨#[107,58]⟩:ByteArray)++G++(⟨#[45,32,112]⟩:ByteArray)++(⟨#[10]⟩:ByteArray))=mkB (bsT (1+b) 2 0 false):=mkB_eq (by
  simp only[ByteArray.data_append,Array.toList_append,hGl.out]
  simp[bsT,bsS,bsG,bsW])
 have hl:(bsT (1+b) 2 0 false).length=6+b+1:=by rw[←mkB_size,←hS,hSz]
 have hZ:TreeZ ((⟨#[107,58]⟩:ByteArray)++G++(⟨#[45,32,112]⟩:ByteArray)++(⟨#[10]⟩:ByteArray)) 0 false none [] ((2+b+1:Nat):Int) 5:=by
  rw[hS]
  have:=badX_is (show badX (mkB (bsT (1+b) 2 0 false)) (if 2=3 then 3 else 0) (decide (2=3)) ((bsT (1+b) 2 0 false).length-(bsW 0).length-1:Nat) 5=true from hbC)
  rw[hl] at this
  rw[show 6+b+1-(bsW 0).length-1=2+b+1 by show 6+b+1-3-1=_;omega] at this
  exact this
 have hSm:=Smp.of_eq hS hbS
 clear hbS hbC hS hGl hl
 refine (K.read _ _ _ _ _ _ _ _ (by omega) (K.smp _ hSm) (K.keep _ _ hE (below3 _ _ _ _)) hZ).mono ?_
 rintro e w2 ⟨cx,lx,rfl,ly,-,-,b2⟩
 obtain ⟨i1,i2,i3,i4,u1,u2,u3,a1,m1,d1,a2,m2,d2,a3,m3,d3,bo,u4,rfl⟩:=ly
 clear hZ
 have hb2:=(below3 _ _ _ _).trans (b2.mono (below3 _ _ _ _).size)
 go_wp2_with fail
 have hb3:=hb2.alloc hb2.size (.cells #[.int .i64 i1,.int .i64 i2,.int .i64 i3,.int .i64 i4,.string u1,.string u2,.string u3,.slice a1 m1 d1,.slice a2 m2 d2,.slice a3 m3 d3,.bool bo,.string u4] 29)
 have hEu:=K.keep _ _ hE hb3
 refine (awake17_true K _ hEu).mono ?_
 rintro e w5 ⟨rfl,b5⟩
 go_wp2
 go_ret
 exact ⟨rfl,hb3.trans (b5.mono hb3.size)⟩
set_option maxRecDepth 100000 in
set_option maxHeartbeats 6400000 in
theorem bes_2_1_1 {Ev:World→Prop} {P:ByteArray→Prop} (K:TreeC Ev P) (bl sg wh:Int) (w:World) (hE:Ev w) (b:Nat) (hb:lowZ bl 4=(b:Int)) (hk:lowZ sg 4=2) (hw:lowZ wh 3=1) :
  Calls Tryz.prog 5 #[.int .i64 bl,.int .i64 sg,.int .i64 wh,.bool true] w fun e w'=>e=.returned (.bool true)∧Below w.heap.size w w':=by
 have hbr:=lowZ_range bl 4 (by omega)
 rw[hb] at hbr
 have hbC:=bsC_all (1+b) (bs_mem (by omega)) 2 (by decide) 1 (by decide) true (by decide)
 have hbS:=bsT_smp (1+b) (bs_mem (by omega)) 2 (by decide) 1 (by decide) true (by decide)
 go_enter Tryz.func5,Tryz.ntmps5
 go_wp2_with fail
 refine (Low_is (b:Int) bl 4 _ (by omega) (by omega) hb).mono ?_
 rintro e w1 ⟨rfl,rfl⟩
 go_wp2_with fail
 refine (Low_is 2 sg 4 _ (by omega) (by omega) hk).mono ?_
 rintro e w1 ⟨rfl,rfl⟩
 go_wp2_with fail
 refine (Low_is 1 wh 3 _ (by omega) (by omega) hw).mono ?_
 rintro e w1 ⟨rfl,rfl⟩
 go_wp2_with fail
 refine (lawBlanks_is (1+b) _ _ (by omega) (by omega)).mono ?_
 rintro e w1 ⟨rfl,rfl⟩
 obtain ⟨G,hG⟩:∃ G:ByteArray,G=⟨(List.replicate (1+b) (32:UInt8)).toArray⟩:=⟨_,rfl⟩
 have hGz:G.size=1+b:=by rw[hG];simp[ByteArray.size]
 have hGl:Hid (G.data.toList=spc (1+b)):=by rw[hG];rfl
 rw[←hG]
 clear hG
 go_wp2_with fail
 have hSz:((⟨#[107,58]⟩:ByteArray)++(G++(⟨#[9]⟩:ByteArray))++(⟨#[63,32,112]⟩:ByteArray)++(⟨#[10]⟩:ByteArray)).size=7+b+1:=by
  simp only[ByteArray.size_append,hGz]
  show _+_+_+_=_
  simp only[ByteArray.size,List.size_toArray,List.length_cons,List.length_nil]
  omega
 have hS:((⟨#[107,58]⟩:ByteArray)++(G++(⟨#[9]⟩:ByteArray))++(⟨#[63,32,112]⟩:ByteArray)++(⟨#[10]⟩:ByteArray))=mkB (bsT (1+b) 2 1 true):=mkB_eq (by
  simp only[ByteArray.data_append,Array.toList_append,hGl.out]
  simp[bsT,bsS,bsG,bsW])
 have hl:(bsT (1+b) 2 1 true).length=7+b+1:=by rw[←mkB_size,←hS,hSz]
 have hZ:TreeZ ((⟨#[107,58]⟩:ByteArray)++(G++(⟨#[9]⟩:ByteArray))++(⟨#[63,32,112]⟩:ByteArray)++(⟨#[10]⟩:ByteArray)) 0 false none [] ((3+b+1:Nat):Int) 5:=by
  rw[hS]
  have:=badX_is (show badX (mkB (bsT (1+b) 2 1 true)) (if 2=3 then 3 else 0) (decide (2=3)) ((bsT (1+b) 2 1 true).length-(bsW 1).length-1:Nat) 5=true from hbC)
  rw[hl] at this
  rw[show 7+b+1-(bsW 1).length-1=3+b+1 by show 7+b+1-3-1=_;omega] at this
  exact this
 have hSm:=Smp.of_eq hS hbS
 clear hbS hbC hS hGl hl
 refine (K.read _ _ _ _ _ _ _ _ (by omega) (K.smp _ hSm) (K.keep _ _ hE (below3 _ _ _ _)) hZ).mono ?_
 rintro e w2 ⟨cx,lx,rfl,ly,-,-,b2⟩
 obtain ⟨i1,i2,i3,i4,u1,u2,u3,a1,m1,d1,a2,m2,d2,a3,m3,d3,bo,u4,rfl⟩:=ly
 clear hZ
 have hb2:=(below3 _ _ _ _).trans (b2.mono (below3 _ _ _ _).size)
 go_wp2_with fail
 have hb3:=hb2.alloc hb2.size (.cells #[.int .i64 i1,.int .i64 i2,.int .i64 i3,.int .i64 i4,.string u1,.string u2,.string u3,.slice a1 m1 d1,.slice a2 m2 d2,.slice a3 m3 d3,.bool bo,.string u4] 29)
 have hEu:=K.keep _ _ hE hb3
 refine (awake17_true K _ hEu).mono ?_
 rintro e w5 ⟨rfl,b5⟩
 go_wp2
 go_ret
 exact ⟨rfl,hb3.trans (b5.mono hb3.size)⟩
set_option maxRecDepth 100000 in
set_option maxHeartbeats 6400000 in
theorem bes_2_1_0 {Ev:World→Prop} {P:ByteArray→Prop} (K:TreeC Ev P) (bl sg wh:Int) (w:World) (hE:Ev w) (b:Nat) (hb:lowZ bl 4=(b:Int)) (hk:lowZ sg 4=2) (hw:lowZ wh 3=1) :
  Calls Tryz.prog 5 #[.int .i64 bl,.int .i64 sg,.int .i64 wh,.bool false] w fun e w'=>e=.returned (.bool true)∧Below w.heap.size w w':=by
 have hbr:=lowZ_range bl 4 (by omega)
 rw[hb] at hbr
 have hbC:=bsC_all (1+b) (bs_mem (by omega)) 2 (by decide) 1 (by decide) false (by decide)
 have hbS:=bsT_smp (1+b) (bs_mem (by omega)) 2 (by decide) 1 (by decide) false (by decide)
 go_enter Tryz.func5,Tryz.ntmps5
 go_wp2_with fail
 refine (Low_is (b:Int) bl 4 _ (by omega) (by omega) hb).mono ?_
 rintro e w1 ⟨rfl,rfl⟩
 go_wp2_with fail
 refine (Low_is 2 sg 4 _ (by omega) (by omega) hk).mono ?_
 rintro e w1 ⟨rfl,rfl⟩
 go_wp2_with fail
 refine (Low_is 1 wh 3 _ (by omega) (by omega) hw).mono ?_
 rintro e w1 ⟨rfl,rfl⟩
 go_wp2_with fail
 refine (lawBlanks_is (1+b) _ _ (by omega) (by omega)).mono ?_
 rintro e w1 ⟨rfl,rfl⟩
 obtain ⟨G,hG⟩:∃ G:ByteArray,G=⟨(List.replicate (1+b) (32:UInt8)).toArray⟩:=⟨_,rfl⟩
 have hGz:G.size=1+b:=by rw[hG];simp[ByteArray.size]
 have hGl:Hid (G.data.toList=spc (1+b)):=by rw[hG];rfl
 rw[←hG]
 clear hG
 go_wp2_with fail
 have hSz:((⟨#[107,58]⟩:ByteArray)++G++(⟨#[63,32,112]⟩:ByteArray)++(⟨#[10]⟩:ByteArray)).size=6+b+1:=by
  simp only[ByteArray.size_append,hGz]
  show _+_+_+_=_
  simp only[ByteArray.size,List.size_toArray,List.length_cons,List.length_nil]
  omega
 have hS:((⟨#[107,58]⟩:ByteArray)++G++(⟨#[63,32,112]⟩:ByteArray)++(⟨#[10]⟩:ByteArray))=mkB (bsT (1+b) 2 1 false):=mkB_eq (by
  simp only[ByteArray.data_append,Array.toList_append,hGl.out]
  simp[bsT,bsS,bsG,bsW])
 have hl:(bsT (1+b) 2 1 false).length=6+b+1:=by rw[←mkB_size,←hS,hSz]
 have hZ:TreeZ ((⟨#[107,58]⟩:ByteArray)++G++(⟨#[63,32,112]⟩:ByteArray)++(⟨#[10]⟩:ByteArray)) 0 false none [] ((2+b+1:Nat):Int) 5:=by
  rw[hS]
  have:=badX_is (show badX (mkB (bsT (1+b) 2 1 false)) (if 2=3 then 3 else 0) (decide (2=3)) ((bsT (1+b) 2 1 false).length-(bsW 1).length-1:Nat) 5=true from hbC)
  rw[hl] at this
  rw[show 6+b+1-(bsW 1).length-1=2+b+1 by show 6+b+1-3-1=_;omega] at this
  exact this
 have hSm:=Smp.of_eq hS hbS
 clear hbS hbC hS hGl hl
 refine (K.read _ _ _ _ _ _ _ _ (by omega) (K.smp _ hSm) (K.keep _ _ hE (below3 _ _ _ _)) hZ).mono ?_
 rintro e w2 ⟨cx,lx,rfl,ly,-,-,b2⟩
 obtain ⟨i1,i2,i3,i4,u1,u2,u3,a1,m1,d1,a2,m2,d2,a3,m3,d3,bo,u4,rfl⟩:=ly
 clear hZ
 have hb2:=(below3 _ _ _ _).trans (b2.mono (below3 _ _ _ _).size)
 go_wp2_with fail
 have hb3:=hb2.alloc hb2.size (.cells #[.int .i64 i1,.int .i64 i2,.int .i64 i3,.int .i64 i4,.string u1,.string u2,.string u3,.slice a1 m1 d1,.slice a2 m2 d2,.slice a3 m3 d3,.bool bo,.string u4] 29)
 have hEu:=K.keep _ _ hE hb3
 refine (awake17_true K _ hEu).mono ?_
 rintro e w5 ⟨rfl,b5⟩
 go_wp2
 go_ret
 exact ⟨rfl,hb3.trans (b5.mono hb3.size)⟩
set_option maxRecDepth 100000 in
set_option maxHeartbeats 6400000 in
theorem bes_2_2_1 {Ev:World→Prop} {P:ByteArray→Prop} (K:TreeC Ev P) (bl sg wh:Int) (w:World) (hE:Ev w) (b:Nat) (hb:lowZ bl 4=(b:Int)) (hk:lowZ sg 4=2) (hw:lowZ wh 3=2) :
  Calls Tryz.prog 5 #[.int .i64 bl,.int .i64 sg,.int .i64 wh,.bool true] w fun e w'=>e=.returned (.bool true)∧Below w.heap.size w w':=by
 have hbr:=lowZ_range bl 4 (by omega)
 rw[hb] at hbr
 have hbC:=bsC_all (1+b) (bs_mem (by omega)) 2 (by decide) 2 (by decide) true (by decide)
 have hbS:=bsT_smp (1+b) (bs_mem (by omega)) 2 (by decide) 2 (by decide) true (by decide)
 go_enter Tryz.func5,Tryz.ntmps5
 go_wp2_with fail
 refine (Low_is (b:Int) bl 4 _ (by omega) (by omega) hb).mono ?_
 rintro e w1 ⟨rfl,rfl⟩
 go_wp2_with fail
 refine (Low_is 2 sg 4 _ (by omega) (by omega) hk).mono ?_
 rintro e w1 ⟨rfl,rfl⟩
 go_wp2_with fail
 refine (Low_is 2 wh 3 _ (by omega) (by omega) hw).mono ?_
 rintro e w1 ⟨rfl,rfl⟩
 go_wp2_with fail
 refine (lawBlanks_is (1+b) _ _ (by omega) (by omega)).mono ?_
 rintro e w1 ⟨rfl,rfl⟩
 obtain ⟨G,hG⟩:∃ G:ByteArray,G=⟨(List.replicate (1+b) (32:UInt8)).toArray⟩:=⟨_,rfl⟩
 have hGz:G.size=1+b:=by rw[hG];simp[ByteArray.size]
 have hGl:Hid (G.data.toList=spc (1+b)):=by rw[hG];rfl
 rw[←hG]
 clear hG
 go_wp2_with fail
 have hSz:((⟨#[107,58]⟩:ByteArray)++(G++(⟨#[9]⟩:ByteArray))++(⟨#[112,58,32,113]⟩:ByteArray)++(⟨#[10]⟩:ByteArray)).size=8+b+1:=by
  simp only[ByteArray.size_append,hGz]
  show _+_+_+_=_
  simp only[ByteArray.size,List.size_toArray,List.length_cons,List.length_nil]
  omega
 have hS:((⟨#[107,58]⟩:ByteArray)++(G++(⟨#[9]⟩:ByteArray))++(⟨#[112,58,32,113]⟩:ByteArray)++(⟨#[10]⟩:ByteArray))=mkB (bsT (1+b) 2 2 true):=mkB_eq (by
  simp only[ByteArray.data_append,Array.toList_append,hGl.out]
  simp[bsT,bsS,bsG,bsW])
 have hl:(bsT (1+b) 2 2 true).length=8+b+1:=by rw[←mkB_size,←hS,hSz]
 have hZ:TreeZ ((⟨#[107,58]⟩:ByteArray)++(G++(⟨#[9]⟩:ByteArray))++(⟨#[112,58,32,113]⟩:ByteArray)++(⟨#[10]⟩:ByteArray)) 0 false none [] ((3+b+1:Nat):Int) 5:=by
  rw[hS]
  have:=badX_is (show badX (mkB (bsT (1+b) 2 2 true)) (if 2=3 then 3 else 0) (decide (2=3)) ((bsT (1+b) 2 2 true).length-(bsW 2).length-1:Nat) 5=true from hbC)
  rw[hl] at this
  rw[show 8+b+1-(bsW 2).length-1=3+b+1 by show 8+b+1-4-1=_;omega] at this
  exact this
 have hSm:=Smp.of_eq hS hbS
 clear hbS hbC hS hGl hl
 refine (K.read _ _ _ _ _ _ _ _ (by omega) (K.smp _ hSm) (K.keep _ _ hE (below3 _ _ _ _)) hZ).mono ?_
 rintro e w2 ⟨cx,lx,rfl,ly,-,-,b2⟩
 obtain ⟨i1,i2,i3,i4,u1,u2,u3,a1,m1,d1,a2,m2,d2,a3,m3,d3,bo,u4,rfl⟩:=ly
 clear hZ
 have hb2:=(below3 _ _ _ _).trans (b2.mono (below3 _ _ _ _).size)
 go_wp2_with fail
 have hb3:=hb2.alloc hb2.size (.cells #[.int .i64 i1,.int .i64 i2,.int .i64 i3,.int .i64 i4,.string u1,.string u2,.string u3,.slice a1 m1 d1,.slice a2 m2 d2,.slice a3 m3 d3,.bool bo,.string u4] 29)
 have hEu:=K.keep _ _ hE hb3
 refine (awake17_true K _ hEu).mono ?_
 rintro e w5 ⟨rfl,b5⟩
 go_wp2
 go_ret
 exact ⟨rfl,hb3.trans (b5.mono hb3.size)⟩
set_option maxRecDepth 100000 in
set_option maxHeartbeats 6400000 in
theorem bes_2_2_0 {Ev:World→Prop} {P:ByteArray→Prop} (K:TreeC Ev P) (bl sg wh:Int) (w:World) (hE:Ev w) (b:Nat) (hb:lowZ bl 4=(b:Int)) (hk:lowZ sg 4=2) (hw:lowZ wh 3=2) :
  Calls Tryz.prog 5 #[.int .i64 bl,.int .i64 sg,.int .i64 wh,.bool false] w fun e w'=>e=.returned (.bool true)∧Below w.heap.size w w':=by
 have hbr:=lowZ_range bl 4 (by omega)
 rw[hb] at hbr
 have hbC:=bsC_all (1+b) (bs_mem (by omega)) 2 (by decide) 2 (by decide) false (by decide)
 have hbS:=bsT_smp (1+b) (bs_mem (by omega)) 2 (by decide) 2 (by decide) false (by decide)
 go_enter Tryz.func5,Tryz.ntmps5
 go_wp2_with fail
 refine (Low_is (b:Int) bl 4 _ (by omega) (by omega) hb).mono ?_
 rintro e w1 ⟨rfl,rfl⟩
 go_wp2_with fail
 refine (Low_is 2 sg 4 _ (by omega) (by omega) hk).mono ?_
 rintro e w1 ⟨rfl,rfl⟩
 go_wp2_with fail
 refine (Low_is 2 wh 3 _ (by omega) (by omega) hw).mono ?_
 rintro e w1 ⟨rfl,rfl⟩
 go_wp2_with fail
 refine (lawBlanks_is (1+b) _ _ (by omega) (by omega)).mono ?_
 rintro e w1 ⟨rfl,rfl⟩
 obtain ⟨G,hG⟩:∃ G:ByteArray,G=⟨(List.replicate (1+b) (32:UInt8)).toArray⟩:=⟨_,rfl⟩
 have hGz:G.size=1+b:=by rw[hG];simp[ByteArray.size]
 have hGl:Hid (G.data.toList=spc (1+b)):=by rw[hG];rfl
 rw[←hG]
 clear hG
 go_wp2_with fail
 have hSz:((⟨#[107,58]⟩:ByteArray)++G++(⟨#[112,58,32,113]⟩:ByteArray)++(⟨#[10]⟩:ByteArray)).size=7+b+1:=by
  simp only[ByteArray.size_append,hGz]
  show _+_+_+_=_
  simp only[ByteArray.size,List.size_toArray,List.length_cons,List.length_nil]
  omega
 have hS:((⟨#[107,58]⟩:ByteArray)++G++(⟨#[112,58,32,113]⟩:ByteArray)++(⟨#[10]⟩:ByteArray))=mkB (bsT (1+b) 2 2 false):=mkB_eq (by
  simp only[ByteArray.data_append,Array.toList_append,hGl.out]
  simp[bsT,bsS,bsG,bsW])
 have hl:(bsT (1+b) 2 2 false).length=7+b+1:=by rw[←mkB_size,←hS,hSz]
 have hZ:TreeZ ((⟨#[107,58]⟩:ByteArray)++G++(⟨#[112,58,32,113]⟩:ByteArray)++(⟨#[10]⟩:ByteArray)) 0 false none [] ((2+b+1:Nat):Int) 5:=by
  rw[hS]
  have:=badX_is (show badX (mkB (bsT (1+b) 2 2 false)) (if 2=3 then 3 else 0) (decide (2=3)) ((bsT (1+b) 2 2 false).length-(bsW 2).length-1:Nat) 5=true from hbC)
  rw[hl] at this
  rw[show 7+b+1-(bsW 2).length-1=2+b+1 by show 7+b+1-4-1=_;omega] at this
  exact this
 have hSm:=Smp.of_eq hS hbS
 clear hbS hbC hS hGl hl
 refine (K.read _ _ _ _ _ _ _ _ (by omega) (K.smp _ hSm) (K.keep _ _ hE (below3 _ _ _ _)) hZ).mono ?_
 rintro e w2 ⟨cx,lx,rfl,ly,-,-,b2⟩
 obtain ⟨i1,i2,i3,i4,u1,u2,u3,a1,m1,d1,a2,m2,d2,a3,m3,d3,bo,u4,rfl⟩:=ly
 clear hZ
 have hb2:=(below3 _ _ _ _).trans (b2.mono (below3 _ _ _ _).size)
 go_wp2_with fail
 have hb3:=hb2.alloc hb2.size (.cells #[.int .i64 i1,.int .i64 i2,.int .i64 i3,.int .i64 i4,.string u1,.string u2,.string u3,.slice a1 m1 d1,.slice a2 m2 d2,.slice a3 m3 d3,.bool bo,.string u4] 29)
 have hEu:=K.keep _ _ hE hb3
 refine (awake17_true K _ hEu).mono ?_
 rintro e w5 ⟨rfl,b5⟩
 go_wp2
 go_ret
 exact ⟨rfl,hb3.trans (b5.mono hb3.size)⟩
set_option maxRecDepth 100000 in
set_option maxHeartbeats 6400000 in
theorem bes_3_0_1 {Ev:World→Prop} {P:ByteArray→Prop} (K:TreeC Ev P) (bl sg wh:Int) (w:World) (hE:Ev w) (b:Nat) (hb:lowZ bl 4=(b:Int)) (hk:lowZ sg 4=3) (hw:lowZ wh 3=0) :
  Calls Tryz.prog 5 #[.int .i64 bl,.int .i64 sg,.int .i64 wh,.bool true] w fun e w'=>e=.returned (.bool true)∧Below w.heap.size w w':=by
 have hbr:=lowZ_range bl 4 (by omega)
 rw[hb] at hbr
 have hbC:=bsC_all (1+b) (bs_mem (by omega)) 3 (by decide) 0 (by decide) true (by decide)
 have hbS:=bsT_smp (1+b) (bs_mem (by omega)) 3 (by decide) 0 (by decide) true (by decide)
 go_enter Tryz.func5,Tryz.ntmps5
 go_wp2_with fail
 refine (Low_is (b:Int) bl 4 _ (by omega) (by omega) hb).mono ?_
 rintro e w1 ⟨rfl,rfl⟩
 go_wp2_with fail
 refine (Low_is 3 sg 4 _ (by omega) (by omega) hk).mono ?_
 rintro e w1 ⟨rfl,rfl⟩
 go_wp2_with fail
 refine (Low_is 0 wh 3 _ (by omega) (by omega) hw).mono ?_
 rintro e w1 ⟨rfl,rfl⟩
 go_wp2_with fail
 refine (lawBlanks_is (1+b) _ _ (by omega) (by omega)).mono ?_
 rintro e w1 ⟨rfl,rfl⟩
 obtain ⟨G,hG⟩:∃ G:ByteArray,G=⟨(List.replicate (1+b) (32:UInt8)).toArray⟩:=⟨_,rfl⟩
 have hGz:G.size=1+b:=by rw[hG];simp[ByteArray.size]
 have hGl:Hid (G.data.toList=spc (1+b)):=by rw[hG];rfl
 rw[←hG]
 clear hG
 go_wp2_with fail
 have hSz:((⟨#[45,45,45]⟩:ByteArray)++(G++(⟨#[9]⟩:ByteArray))++(⟨#[45,32,112]⟩:ByteArray)++(⟨#[10]⟩:ByteArray)).size=8+b+1:=by
  simp only[ByteArray.size_append,hGz]
  show _+_+_+_=_
  simp only[ByteArray.size,List.size_toArray,List.length_cons,List.length_nil]
  omega
 have hS:((⟨#[45,45,45]⟩:ByteArray)++(G++(⟨#[9]⟩:ByteArray))++(⟨#[45,32,112]⟩:ByteArray)++(⟨#[10]⟩:ByteArray))=mkB (bsT (1+b) 3 0 true):=mkB_eq (by
  simp only[ByteArray.data_append,Array.toList_append,hGl.out]
  simp[bsT,bsS,bsG,bsW])
 have hl:(bsT (1+b) 3 0 true).length=8+b+1:=by rw[←mkB_size,←hS,hSz]
 have hZ:TreeZ ((⟨#[45,45,45]⟩:ByteArray)++(G++(⟨#[9]⟩:ByteArray))++(⟨#[45,32,112]⟩:ByteArray)++(⟨#[10]⟩:ByteArray)) 3 true none [] ((4+b+1:Nat):Int) 5:=by
  rw[hS]
  have:=badX_is (show badX (mkB (bsT (1+b) 3 0 true)) (if 3=3 then 3 else 0) (decide (3=3)) ((bsT (1+b) 3 0 true).length-(bsW 0).length-1:Nat) 5=true from hbC)
  rw[hl] at this
  rw[show 8+b+1-(bsW 0).length-1=4+b+1 by show 8+b+1-3-1=_;omega] at this
  exact this
 have hSm:=Smp.of_eq hS hbS
 clear hbS hbC hS hGl hl
 refine (K.read _ _ _ _ _ _ _ _ (by omega) (K.smp _ hSm) (K.keep _ _ hE (below3 _ _ _ _)) hZ).mono ?_
 rintro e w2 ⟨cx,lx,rfl,ly,-,-,b2⟩
 obtain ⟨i1,i2,i3,i4,u1,u2,u3,a1,m1,d1,a2,m2,d2,a3,m3,d3,bo,u4,rfl⟩:=ly
 clear hZ
 have hb2:=(below3 _ _ _ _).trans (b2.mono (below3 _ _ _ _).size)
 go_wp2_with fail
 have hb3:=hb2.alloc hb2.size (.cells #[.int .i64 i1,.int .i64 i2,.int .i64 i3,.int .i64 i4,.string u1,.string u2,.string u3,.slice a1 m1 d1,.slice a2 m2 d2,.slice a3 m3 d3,.bool bo,.string u4] 29)
 have hEu:=K.keep _ _ hE hb3
 refine (awake17_true K _ hEu).mono ?_
 rintro e w5 ⟨rfl,b5⟩
 go_wp2
 go_ret
 exact ⟨rfl,hb3.trans (b5.mono hb3.size)⟩
set_option maxRecDepth 100000 in
set_option maxHeartbeats 6400000 in
theorem bes_3_0_0 {Ev:World→Prop} {P:ByteArray→Prop} (K:TreeC Ev P) (bl sg wh:Int) (w:World) (hE:Ev w) (b:Nat) (hb:lowZ bl 4=(b:Int)) (hk:lowZ sg 4=3) (hw:lowZ wh 3=0) :
  Calls Tryz.prog 5 #[.int .i64 bl,.int .i64 sg,.int .i64 wh,.bool false] w fun e w'=>e=.returned (.bool true)∧Below w.heap.size w w':=by
 have hbr:=lowZ_range bl 4 (by omega)
 rw[hb] at hbr
 have hbC:=bsC_all (1+b) (bs_mem (by omega)) 3 (by decide) 0 (by decide) false (by decide)
 have hbS:=bsT_smp (1+b) (bs_mem (by omega)) 3 (by decide) 0 (by decide) false (by decide)
 go_enter Tryz.func5,Tryz.ntmps5
 go_wp2_with fail
 refine (Low_is (b:Int) bl 4 _ (by omega) (by omega) hb).mono ?_
 rintro e w1 ⟨rfl,rfl⟩
 go_wp2_with fail
 refine (Low_is 3 sg 4 _ (by omega) (by omega) hk).mono ?_
 rintro e w1 ⟨rfl,rfl⟩
 go_wp2_with fail
 refine (Low_is 0 wh 3 _ (by omega) (by omega) hw).mono ?_
 rintro e w1 ⟨rfl,rfl⟩
 go_wp2_with fail
 refine (lawBlanks_is (1+b) _ _ (by omega) (by omega)).mono ?_
 rintro e w1 ⟨rfl,rfl⟩
 obtain ⟨G,hG⟩:∃ G:ByteArray,G=⟨(List.replicate (1+b) (32:UInt8)).toArray⟩:=⟨_,rfl⟩
 have hGz:G.size=1+b:=by rw[hG];simp[ByteArray.size]
 have hGl:Hid (G.data.toList=spc (1+b)):=by rw[hG];rfl
 rw[←hG]
 clear hG
 go_wp2_with fail
 have hSz:((⟨#[45,45,45]⟩:ByteArray)++G++(⟨#[45,32,112]⟩:ByteArray)++(⟨#[10]⟩:ByteArray)).size=7+b+1:=by
  simp only[ByteArray.size_append,hGz]
  show _+_+_+_=_
  simp only[ByteArray.size,List.size_toArray,List.length_cons,List.length_nil]
  omega
 have hS:((⟨#[45,45,45]⟩:ByteArray)++G++(⟨#[45,32,112]⟩:ByteArray)++(⟨#[10]⟩:ByteArray))=mkB (bsT (1+b) 3 0 false):=mkB_eq (by
  simp only[ByteArray.data_append,Array.toList_append,hGl.out]
  simp[bsT,bsS,bsG,bsW])
 have hl:(bsT (1+b) 3 0 false).length=7+b+1:=by rw[←mkB_size,←hS,hSz]
 have hZ:TreeZ ((⟨#[45,45,45]⟩:ByteArray)++G++(⟨#[45,32,112]⟩:ByteArray)++(⟨#[10]⟩:ByteArray)) 3 true none [] ((3+b+1:Nat):Int) 5:=by
  rw[hS]
  have:=badX_is (show badX (mkB (bsT (1+b) 3 0 false)) (if 3=3 then 3 else 0) (decide (3=3)) ((bsT (1+b) 3 0 false).length-(bsW 0).length-1:Nat) 5=true from hbC)
  rw[hl] at this
  rw[show 7+b+1-(bsW 0).length-1=3+b+1 by show 7+b+1-3-1=_;omega] at this
  exact this
 have hSm:=Smp.of_eq hS hbS
 clear hbS hbC hS hGl hl
 refine (K.read _ _ _ _ _ _ _ _ (by omega) (K.smp _ hSm) (K.keep _ _ hE (below3 _ _ _ _)) hZ).mono ?_
 rintro e w2 ⟨cx,lx,rfl,ly,-,-,b2⟩
 obtain ⟨i1,i2,i3,i4,u1,u2,u3,a1,m1,d1,a2,m2,d2,a3,m3,d3,bo,u4,rfl⟩:=ly
 clear hZ
 have hb2:=(below3 _ _ _ _).trans (b2.mono (below3 _ _ _ _).size)
 go_wp2_with fail
 have hb3:=hb2.alloc hb2.size (.cells #[.int .i64 i1,.int .i64 i2,.int .i64 i3,.int .i64 i4,.string u1,.string u2,.string u3,.slice a1 m1 d1,.slice a2 m2 d2,.slice a3 m3 d3,.bool bo,.string u4] 29)
 have hEu:=K.keep _ _ hE hb3
 refine (awake17_true K _ hEu).mono ?_
 rintro e w5 ⟨rfl,b5⟩
 go_wp2
 go_ret
 exact ⟨rfl,hb3.trans (b5.mono hb3.size)⟩
set_option maxRecDepth 100000 in
set_option maxHeartbeats 6400000 in
theorem bes_3_1_1 {Ev:World→Prop} {P:ByteArray→Prop} (K:TreeC Ev P) (bl sg wh:Int) (w:World) (hE:Ev w) (b:Nat) (hb:lowZ bl 4=(b:Int)) (hk:lowZ sg 4=3) (hw:lowZ wh 3=1) :
  Calls Tryz.prog 5 #[.int .i64 bl,.int .i64 sg,.int .i64 wh,.bool true] w fun e w'=>e=.returned (.bool true)∧Below w.heap.size w w':=by
 have hbr:=lowZ_range bl 4 (by omega)
 rw[hb] at hbr
 have hbC:=bsC_all (1+b) (bs_mem (by omega)) 3 (by decide) 1 (by decide) true (by decide)
 have hbS:=bsT_smp (1+b) (bs_mem (by omega)) 3 (by decide) 1 (by decide) true (by decide)
 go_enter Tryz.func5,Tryz.ntmps5
 go_wp2_with fail
 refine (Low_is (b:Int) bl 4 _ (by omega) (by omega) hb).mono ?_
 rintro e w1 ⟨rfl,rfl⟩
 go_wp2_with fail
 refine (Low_is 3 sg 4 _ (by omega) (by omega) hk).mono ?_
 rintro e w1 ⟨rfl,rfl⟩
 go_wp2_with fail
 refine (Low_is 1 wh 3 _ (by omega) (by omega) hw).mono ?_
 rintro e w1 ⟨rfl,rfl⟩
 go_wp2_with fail
 refine (lawBlanks_is (1+b) _ _ (by omega) (by omega)).mono ?_
 rintro e w1 ⟨rfl,rfl⟩
 obtain ⟨G,hG⟩:∃ G:ByteArray,G=⟨(List.replicate (1+b) (32:UInt8)).toArray⟩:=⟨_,rfl⟩
 have hGz:G.size=1+b:=by rw[hG];simp[ByteArray.size]
 have hGl:Hid (G.data.toList=spc (1+b)):=by rw[hG];rfl
 rw[←hG]
 clear hG
 go_wp2_with fail
 have hSz:((⟨#[45,45,45]⟩:ByteArray)++(G++(⟨#[9]⟩:ByteArray))++(⟨#[63,32,112]⟩:ByteArray)++(⟨#[10]⟩:ByteArray)).size=8+b+1:=by
  simp only[ByteArray.size_append,hGz]
  show _+_+_+_=_
  simp only[ByteArray.size,List.size_toArray,List.length_cons,List.length_nil]
  omega
 have hS:((⟨#[45,45,45]⟩:ByteArray)++(G++(⟨#[9]⟩:ByteArray))++(⟨#[63,32,112]⟩:ByteArray)++(⟨#[10]⟩:ByteArray))=mkB (bsT (1+b) 3 1 true):=mkB_eq (by
  simp only[ByteArray.data_append,Array.toList_append,hGl.out]
  simp[bsT,bsS,bsG,bsW])
 have hl:(bsT (1+b) 3 1 true).length=8+b+1:=by rw[←mkB_size,←hS,hSz]
 have hZ:TreeZ ((⟨#[45,45,45]⟩:ByteArray)++(G++(⟨#[9]⟩:ByteArray))++(⟨#[63,32,112]⟩:ByteArray)++(⟨#[10]⟩:ByteArray)) 3 true none [] ((4+b+1:Nat):Int) 5:=by
  rw[hS]
  have:=badX_is (show badX (mkB (bsT (1+b) 3 1 true)) (if 3=3 then 3 else 0) (decide (3=3)) ((bsT (1+b) 3 1 true).length-(bsW 1).length-1:Nat) 5=true from hbC)
  rw[hl] at this
  rw[show 8+b+1-(bsW 1).length-1=4+b+1 by show 8+b+1-3-1=_;omega] at this
  exact this
 have hSm:=Smp.of_eq hS hbS
 clear hbS hbC hS hGl hl
 refine (K.read _ _ _ _ _ _ _ _ (by omega) (K.smp _ hSm) (K.keep _ _ hE (below3 _ _ _ _)) hZ).mono ?_
 rintro e w2 ⟨cx,lx,rfl,ly,-,-,b2⟩
 obtain ⟨i1,i2,i3,i4,u1,u2,u3,a1,m1,d1,a2,m2,d2,a3,m3,d3,bo,u4,rfl⟩:=ly
 clear hZ
 have hb2:=(below3 _ _ _ _).trans (b2.mono (below3 _ _ _ _).size)
 go_wp2_with fail
 have hb3:=hb2.alloc hb2.size (.cells #[.int .i64 i1,.int .i64 i2,.int .i64 i3,.int .i64 i4,.string u1,.string u2,.string u3,.slice a1 m1 d1,.slice a2 m2 d2,.slice a3 m3 d3,.bool bo,.string u4] 29)
 have hEu:=K.keep _ _ hE hb3
 refine (awake17_true K _ hEu).mono ?_
 rintro e w5 ⟨rfl,b5⟩
 go_wp2
 go_ret
 exact ⟨rfl,hb3.trans (b5.mono hb3.size)⟩
set_option maxRecDepth 100000 in
set_option maxHeartbeats 6400000 in
theorem bes_3_1_0 {Ev:World→Prop} {P:ByteArray→Prop} (K:TreeC Ev P) (bl sg wh:Int) (w:World) (hE:Ev w) (b:Nat) (hb:lowZ bl 4=(b:Int)) (hk:lowZ sg 4=3) (hw:lowZ wh 3=1) :
  Calls Tryz.prog 5 #[.int .i64 bl,.int .i64 sg,.int .i64 wh,.bool false] w fun e w'=>e=.returned (.bool true)∧Below w.heap.size w w':=by
 have hbr:=lowZ_range bl 4 (by omega)
 rw[hb] at hbr
 have hbC:=bsC_all (1+b) (bs_mem (by omega)) 3 (by decide) 1 (by decide) false (by decide)
 have hbS:=bsT_smp (1+b) (bs_mem (by omega)) 3 (by decide) 1 (by decide) false (by decide)
 go_enter Tryz.func5,Tryz.ntmps5
 go_wp2_with fail
 refine (Low_is (b:Int) bl 4 _ (by omega) (by omega) hb).mono ?_
 rintro e w1 ⟨rfl,rfl⟩
 go_wp2_with fail
 refine (Low_is 3 sg 4 _ (by omega) (by omega) hk).mono ?_
 rintro e w1 ⟨rfl,rfl⟩
 go_wp2_with fail
 refine (Low_is 1 wh 3 _ (by omega) (by omega) hw).mono ?_
 rintro e w1 ⟨rfl,rfl⟩
 go_wp2_with fail
 refine (lawBlanks_is (1+b) _ _ (by omega) (by omega)).mono ?_
 rintro e w1 ⟨rfl,rfl⟩
 obtain ⟨G,hG⟩:∃ G:ByteArray,G=⟨(List.replicate (1+b) (32:UInt8)).toArray⟩:=⟨_,rfl⟩
 have hGz:G.size=1+b:=by rw[hG];simp[ByteArray.size]
 have hGl:Hid (G.data.toList=spc (1+b)):=by rw[hG];rfl
 rw[←hG]
 clear hG
 go_wp2_with fail
 have hSz:((⟨#[45,45,45]⟩:ByteArray)++G++(⟨#[63,32,112]⟩:ByteArray)++(⟨#[10]⟩:ByteArray)).size=7+b+1:=by
  simp only[ByteArray.size_append,hGz]
  show _+_+_+_=_
  simp only[ByteArray.size,List.size_toArray,List.length_cons,List.length_nil]
  omega
 have hS:((⟨#[45,45,45]⟩:ByteArray)++G++(⟨#[63,32,112]⟩:ByteArray)++(⟨#[10]⟩:ByteArray))=mkB (bsT (1+b) 3 1 false):=mkB_eq (by
  simp only[ByteArray.data_append,Array.toList_append,hGl.out]
  simp[bsT,bsS,bsG,bsW])
 have hl:(bsT (1+b) 3 1 false).length=7+b+1:=by rw[←mkB_size,←hS,hSz]
 have hZ:TreeZ ((⟨#[45,45,45]⟩:ByteArray)++G++(⟨#[63,32,112]⟩:ByteArray)++(⟨#[10]⟩:ByteArray)) 3 true none [] ((3+b+1:Nat):Int) 5:=by
  rw[hS]
  have:=badX_is (show badX (mkB (bsT (1+b) 3 1 false)) (if 3=3 then 3 else 0) (decide (3=3)) ((bsT (1+b) 3 1 false).length-(bsW 1).length-1:Nat) 5=true from hbC)
  rw[hl] at this
  rw[show 7+b+1-(bsW 1).length-1=3+b+1 by show 7+b+1-3-1=_;omega] at this
  exact this
 have hSm:=Smp.of_eq hS hbS
 clear hbS hbC hS hGl hl
 refine (K.read _ _ _ _ _ _ _ _ (by omega) (K.smp _ hSm) (K.keep _ _ hE (below3 _ _ _ _)) hZ).mono ?_
 rintro e w2 ⟨cx,lx,rfl,ly,-,-,b2⟩
 obtain ⟨i1,i2,i3,i4,u1,u2,u3,a1,m1,d1,a2,m2,d2,a3,m3,d3,bo,u4,rfl⟩:=ly
 clear hZ
 have hb2:=(below3 _ _ _ _).trans (b2.mono (below3 _ _ _ _).size)
 go_wp2_with fail
 have hb3:=hb2.alloc hb2.size (.cells #[.int .i64 i1,.int .i64 i2,.int .i64 i3,.int .i64 i4,.string u1,.string u2,.string u3,.slice a1 m1 d1,.slice a2 m2 d2,.slice a3 m3 d3,.bool bo,.string u4] 29)
 have hEu:=K.keep _ _ hE hb3
 refine (awake17_true K _ hEu).mono ?_
 rintro e w5 ⟨rfl,b5⟩
 go_wp2
 go_ret
 exact ⟨rfl,hb3.trans (b5.mono hb3.size)⟩
set_option maxRecDepth 100000 in
set_option maxHeartbeats 6400000 in
theorem bes_3_2_1 {Ev:World→Prop} {P:ByteArray→Prop} (K:TreeC Ev P) (bl sg wh:Int) (w:World) (hE:Ev w) (b:Nat) (hb:lowZ bl 4=(b:Int)) (hk:lowZ sg 4=3) (hw:lowZ wh 3=2) :
  Calls Tryz.prog 5 #[.int .i64 bl,.int .i64 sg,.int .i64 wh,.bool true] w fun e w'=>e=.returned (.bool true)∧Below w.heap.size w w':=by
 have hbr:=lowZ_range bl 4 (by omega)
 rw[hb] at hbr
 have hbC:=bsC_all (1+b) (bs_mem (by omega)) 3 (by decide) 2 (by decide) true (by decide)
 have hbS:=bsT_smp (1+b) (bs_mem (by omega)) 3 (by decide) 2 (by decide) true (by decide)
 go_enter Tryz.func5,Tryz.ntmps5
 go_wp2_with fail
 refine (Low_is (b:Int) bl 4 _ (by omega) (by omega) hb).mono ?_
 rintro e w1 ⟨rfl,rfl⟩
 go_wp2_with fail
 refine (Low_is 3 sg 4 _ (by omega) (by omega) hk).mono ?_
 rintro e w1 ⟨rfl,rfl⟩
 go_wp2_with fail
 refine (Low_is 2 wh 3 _ (by omega) (by omega) hw).mono ?_
 rintro e w1 ⟨rfl,rfl⟩
 go_wp2_with fail
 refine (lawBlanks_is (1+b) _ _ (by omega) (by omega)).mono ?_
 rintro e w1 ⟨rfl,rfl⟩
 obtain ⟨G,hG⟩:∃ G:ByteArray,G=⟨(List.replicate (1+b) (32:UInt8)).toArray⟩:=⟨_,rfl⟩
 have hGz:G.size=1+b:=by rw[hG];simp[ByteArray.size]
 have hGl:Hid (G.data.toList=spc (1+b)):=by rw[hG];rfl
 rw[←hG]
 clear hG
 go_wp2_with fail
 have hSz:((⟨#[45,45,45]⟩:ByteArray)++(G++(⟨#[9]⟩:ByteArray))++(⟨#[112,58,32,113]⟩:ByteArray)++(⟨#[10]⟩:ByteArray)).size=9+b+1:=by
  simp only[ByteArray.size_append,hGz]
  show _+_+_+_=_
  simp only[ByteArray.size,List.size_toArray,List.length_cons,List.length_nil]
  omega
 have hS:((⟨#[45,45,45]⟩:ByteArray)++(G++(⟨#[9]⟩:ByteArray))++(⟨#[112,58,32,113]⟩:ByteArray)++(⟨#[10]⟩:ByteArray))=mkB (bsT (1+b) 3 2 true):=mkB_eq (by
  simp only[ByteArray.data_append,Array.toList_append,hGl.out]
  simp[bsT,bsS,bsG,bsW])
 have hl:(bsT (1+b) 3 2 true).length=9+b+1:=by rw[←mkB_size,←hS,hSz]
 have hZ:TreeZ ((⟨#[45,45,45]⟩:ByteArray)++(G++(⟨#[9]⟩:ByteArray))++(⟨#[112,58,32,113]⟩:ByteArray)++(⟨#[10]⟩:ByteArray)) 3 true none [] ((4+b+1:Nat):Int) 5:=by
  rw[hS]
  have:=badX_is (show badX (mkB (bsT (1+b) 3 2 true)) (if 3=3 then 3 else 0) (decide (3=3)) ((bsT (1+b) 3 2 true).length-(bsW 2).length-1:Nat) 5=true from hbC)
  rw[hl] at this
  rw[show 9+b+1-(bsW 2).length-1=4+b+1 by show 9+b+1-4-1=_;omega] at this
  exact this
 have hSm:=Smp.of_eq hS hbS
 clear hbS hbC hS hGl hl
 refine (K.read _ _ _ _ _ _ _ _ (by omega) (K.smp _ hSm) (K.keep _ _ hE (below3 _ _ _ _)) hZ).mono ?_
 rintro e w2 ⟨cx,lx,rfl,ly,-,-,b2⟩
 obtain ⟨i1,i2,i3,i4,u1,u2,u3,a1,m1,d1,a2,m2,d2,a3,m3,d3,bo,u4,rfl⟩:=ly
 clear hZ
 have hb2:=(below3 _ _ _ _).trans (b2.mono (below3 _ _ _ _).size)
 go_wp2_with fail
 have hb3:=hb2.alloc hb2.size (.cells #[.int .i64 i1,.int .i64 i2,.int .i64 i3,.int .i64 i4,.string u1,.string u2,.string u3,.slice a1 m1 d1,.slice a2 m2 d2,.slice a3 m3 d3,.bool bo,.string u4] 29)
 have hEu:=K.keep _ _ hE hb3
 refine (awake17_true K _ hEu).mono ?_
 rintro e w5 ⟨rfl,b5⟩
 go_wp2
 go_ret
 exact ⟨rfl,hb3.trans (b5.mono hb3.size)⟩
set_option maxRecDepth 100000 in
set_option maxHeartbeats 6400000 in
theorem bes_3_2_0 {Ev:World→Prop} {P:ByteArray→Prop} (K:TreeC Ev P) (bl sg wh:Int) (w:World) (hE:Ev w) (b:Nat) (hb:lowZ bl 4=(b:Int)) (hk:lowZ sg 4=3) (hw:lowZ wh 3=2) :
  Calls Tryz.prog 5 #[.int .i64 bl,.int .i64 sg,.int .i64 wh,.bool false] w fun e w'=>e=.returned (.bool true)∧Below w.heap.size w w':=by
 have hbr:=lowZ_range bl 4 (by omega)
 rw[hb] at hbr
 have hbC:=bsC_all (1+b) (bs_mem (by omega)) 3 (by decide) 2 (by decide) false (by decide)
 have hbS:=bsT_smp (1+b) (bs_mem (by omega)) 3 (by decide) 2 (by decide) false (by decide)
 go_enter Tryz.func5,Tryz.ntmps5
 go_wp2_with fail
 refine (Low_is (b:Int) bl 4 _ (by omega) (by omega) hb).mono ?_
 rintro e w1 ⟨rfl,rfl⟩
 go_wp2_with fail
 refine (Low_is 3 sg 4 _ (by omega) (by omega) hk).mono ?_
 rintro e w1 ⟨rfl,rfl⟩
 go_wp2_with fail
 refine (Low_is 2 wh 3 _ (by omega) (by omega) hw).mono ?_
 rintro e w1 ⟨rfl,rfl⟩
 go_wp2_with fail
 refine (lawBlanks_is (1+b) _ _ (by omega) (by omega)).mono ?_
 rintro e w1 ⟨rfl,rfl⟩
 obtain ⟨G,hG⟩:∃ G:ByteArray,G=⟨(List.replicate (1+b) (32:UInt8)).toArray⟩:=⟨_,rfl⟩
 have hGz:G.size=1+b:=by rw[hG];simp[ByteArray.size]
 have hGl:Hid (G.data.toList=spc (1+b)):=by rw[hG];rfl
 rw[←hG]
 clear hG
 go_wp2_with fail
 have hSz:((⟨#[45,45,45]⟩:ByteArray)++G++(⟨#[112,58,32,113]⟩:ByteArray)++(⟨#[10]⟩:ByteArray)).size=8+b+1:=by
  simp only[ByteArray.size_append,hGz]
  show _+_+_+_=_
  simp only[ByteArray.size,List.size_toArray,List.length_cons,List.length_nil]
  omega
 have hS:((⟨#[45,45,45]⟩:ByteArray)++G++(⟨#[112,58,32,113]⟩:ByteArray)++(⟨#[10]⟩:ByteArray))=mkB (bsT (1+b) 3 2 false):=mkB_eq (by
  simp only[ByteArray.data_append,Array.toList_append,hGl.out]
  simp[bsT,bsS,bsG,bsW])
 have hl:(bsT (1+b) 3 2 false).length=8+b+1:=by rw[←mkB_size,←hS,hSz]
 have hZ:TreeZ ((⟨#[45,45,45]⟩:ByteArray)++G++(⟨#[112,58,32,113]⟩:ByteArray)++(⟨#[10]⟩:ByteArray)) 3 true none [] ((3+b+1:Nat):Int) 5:=by
  rw[hS]
  have:=badX_is (show badX (mkB (bsT (1+b) 3 2 false)) (if 3=3 then 3 else 0) (decide (3=3)) ((bsT (1+b) 3 2 false).length-(bsW 2).length-1:Nat) 5=true from hbC)
  rw[hl] at this
  rw[show 8+b+1-(bsW 2).length-1=3+b+1 by show 8+b+1-4-1=_;omega] at this
  exact this
 have hSm:=Smp.of_eq hS hbS
 clear hbS hbC hS hGl hl
 refine (K.read _ _ _ _ _ _ _ _ (by omega) (K.smp _ hSm) (K.keep _ _ hE (below3 _ _ _ _)) hZ).mono ?_
 rintro e w2 ⟨cx,lx,rfl,ly,-,-,b2⟩
 obtain ⟨i1,i2,i3,i4,u1,u2,u3,a1,m1,d1,a2,m2,d2,a3,m3,d3,bo,u4,rfl⟩:=ly
 clear hZ
 have hb2:=(below3 _ _ _ _).trans (b2.mono (below3 _ _ _ _).size)
 go_wp2_with fail
 have hb3:=hb2.alloc hb2.size (.cells #[.int .i64 i1,.int .i64 i2,.int .i64 i3,.int .i64 i4,.string u1,.string u2,.string u3,.slice a1 m1 d1,.slice a2 m2 d2,.slice a3 m3 d3,.bool bo,.string u4] 29)
 have hEu:=K.keep _ _ hE hb3
 refine (awake17_true K _ hEu).mono ?_
 rintro e w5 ⟨rfl,b5⟩
 go_wp2
 go_ret
 exact ⟨rfl,hb3.trans (b5.mono hb3.size)⟩
theorem TreeBeside_walk {Ev:World→Prop} {P:ByteArray→Prop} (K:TreeC Ev P) (bl sg wh:Int) (tab:Bool) (w:World) (hE:Ev w) :
  Calls Tryz.prog 5 #[.int .i64 bl,.int .i64 sg,.int .i64 wh,.bool tab] w fun e w'=>e=.returned (.bool true)∧Below w.heap.size w w':=by
 have h1:=lowZ_range bl 4 (by omega)
 have h2:=lowZ_range sg 4 (by omega)
 have h3:=lowZ_range wh 3 (by omega)
 obtain ⟨b,hb⟩:∃ b:Nat,lowZ bl 4=(b:Int):=⟨(lowZ bl 4).toNat,by omega⟩
 have hk:lowZ sg 4=0∨lowZ sg 4=1∨lowZ sg 4=2∨lowZ sg 4=3:=by omega
 have hw:lowZ wh 3=0∨lowZ wh 3=1∨lowZ wh 3=2:=by omega
 cases tab
 ·rcases hk with hk|hk|hk|hk <;> rcases hw with hw|hw|hw
  ·exact bes_0_0_0 K bl sg wh w hE b hb hk hw
  ·exact bes_0_1_0 K bl sg wh w hE b hb hk hw
  ·exact bes_0_2_0 K bl sg wh w hE b hb hk hw
  ·exact bes_1_0_0 K bl sg wh w hE b hb hk hw
  ·exact bes_1_1_0 K bl sg wh w hE b hb hk hw
  ·exact bes_1_2_0 K bl sg wh w hE b hb hk hw
  ·exact bes_2_0_0 K bl sg wh w hE b hb hk hw
  ·exact bes_2_1_0 K bl sg wh w hE b hb hk hw
  ·exact bes_2_2_0 K bl sg wh w hE b hb hk hw
  ·exact bes_3_0_0 K bl sg wh w hE b hb hk hw
  ·exact bes_3_1_0 K bl sg wh w hE b hb hk hw
  ·exact bes_3_2_0 K bl sg wh w hE b hb hk hw
 ·rcases hk with hk|hk|hk|hk <;> rcases hw with hw|hw|hw
  ·exact bes_0_0_1 K bl sg wh w hE b hb hk hw
  ·exact bes_0_1_1 K bl sg wh w hE b hb hk hw
  ·exact bes_0_2_1 K bl sg wh w hE b hb hk hw
  ·exact bes_1_0_1 K bl sg wh w hE b hb hk hw
  ·exact bes_1_1_1 K bl sg wh w hE b hb hk hw
  ·exact bes_1_2_1 K bl sg wh w hE b hb hk hw
  ·exact bes_2_0_1 K bl sg wh w hE b hb hk hw
  ·exact bes_2_1_1 K bl sg wh w hE b hb hk hw
  ·exact bes_2_2_1 K bl sg wh w hE b hb hk hw
  ·exact bes_3_0_1 K bl sg wh w hE b hb hk hw
  ·exact bes_3_1_1 K bl sg wh w hE b hb hk hw
  ·exact bes_3_2_1 K bl sg wh w hE b hb hk hw
end Go.Proofs.YtafhgbokdfhapaaGreatDoor

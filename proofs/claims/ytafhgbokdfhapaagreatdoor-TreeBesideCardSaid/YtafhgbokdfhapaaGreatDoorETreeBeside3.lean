/- Parts of the proof of TreeBeside, put together from smaller texts (blanks that Lean does not want are struck). Conditions: those that each theorem writes out. -/
import Derived.BigQuiet
import Derived.Deep.DeepCutAuto
import Derived.Deep.DrawnRows
import Derived.Deep.LoopGhost
import Derived.Deep.QuietTactic
import Derived.Deep.RegionHeld3
import Derived.Deep.RegionWith
import Derived.Laws.Cover4
import Derived.Lib.Hide
import Derived.Lib.MapLaws
import Derived.Shelf.LaysC
import Derived.Shelf.LaysM
import Derived.Shelf.Small.Strs
import Derived.Shelf.Small.Utf8
import Derived.Shelf.Small.Wraps
import Derived.Shelf.Strconv.Clone
import Derived.Shelf.Strconv.SyntaxError
import Derived.Shelf.Strconv.ToError
import Derived.Shelf.Strings.AsciiSet
import Derived.Shelf.Strings.Builder1
import Derived.Shelf.Strings.BuilderF
import Derived.Shelf.Strings.BuilderK
import Derived.Shelf.Strings.BuilderRune
import Derived.Shelf.Strings.Count
import Derived.Shelf.Strings.LastIndex
import Derived.Shelf.Strings.Prefix
import Derived.Shelf.Strings.Runes
import Derived.Shelf.Strings.Search1
import Derived.Shelf.Strings.Search2
import Derived.Shelf.Strings.Search3
import Derived.Shelf.Strings.Shaped
import Derived.Shelf.Strings.Split
import Derived.Shelf.Strings.Trim
import Derived.Shelf.Unicode.DecodeSlow
import Derived.WalkKit
import Derived.WalkLawsBesides
import Derived.WalkSpells
import Derived.Test.YtafhgbokdfhapaaGreatDoorETreeBeside0
import Derived.Test.YtafhgbokdfhapaaGreatDoorETreeBeside1
import Derived.Test.YtafhgbokdfhapaaGreatDoorETreeBeside2
import Derived.Test.YtafhgbokdfhapaaGreatDoorProg
import Derived.Test.YtafhgbokdfhapaaGreatDoorZ00
import Derived.Test.YtafhgbokdfhapaaGreatDoorZ01
import Derived.Test.YtafhgbokdfhapaaGreatDoorZ02
import Derived.Test.YtafhgbokdfhapaaGreatDoorZ03
import Derived.Test.YtafhgbokdfhapaaGreatDoorZ04
import Derived.Test.YtafhgbokdfhapaaGreatDoorZ10
import Derived.Test.YtafhgbokdfhapaaGreatDoorZ12
import Derived.Test.YtafhgbokdfhapaaGreatDoorZ16
import Derived.Test.YtafhgbokdfhapaaGreatDoorZ29
namespace Go.Proofs.YtafhgbokdfhapaaGreatDoor
open Go.RowKit
def badX (s:ByteArray) (at':Int) (beside:Bool) (E C:Int):Bool:=match treeX s at' beside with
 | some (.bad p c)=>decide ((p:Int)=E∧c=C)
 | some (.ok r)=>!(overB s r.2.2)&&decide ((r.2.2:Int)=E∧C=5)
 | none=>false
theorem badX_is {s:ByteArray} {at':Int} {beside:Bool} {E C:Int} (h:badX s at' beside E C=true):TreeZ s at' beside none [] E C:=by
 unfold badX at h
 split at h
 ·rename_i p c hx
  rw[decide_eq_true_eq] at h
  obtain ⟨rfl,rfl⟩:=h
  exact treeX_is hx
 ·rename_i r hx
  rw[Bool.and_eq_true,decide_eq_true_eq] at h
  obtain ⟨h1,rfl,rfl⟩:=h
  have:=treeX_is hx
  rw[show treeA s (.ok r)=(none,[],(r.2.2:Int),5) from if_neg (show ¬ (overB s r.2.2=true) by simpa using h1)] at this
  exact this
 ·cases h
def goodX (s:ByteArray) (at':Int) (beside:Bool) (P:NT→Bool):Bool:=match treeX s at' beside with
 | some (.ok r)=>overB s r.2.2&&(r.2.1.isEmpty&&(decide (r.2.2=s.size)&&P r.1))
 | _=>false
theorem goodX_is {s:ByteArray} {at':Int} {beside:Bool} {P:NT→Bool} (h:goodX s at' beside P=true):∃ x,P x=true∧TreeZ s at' beside (some x) [] (s.size:Int) 0:=by
 unfold goodX at h
 split at h
 ·rename_i r hx
  rw[Bool.and_eq_true,Bool.and_eq_true,Bool.and_eq_true,decide_eq_true_eq] at h
  obtain ⟨h1,h2,h3,h4⟩:=h
  refine ⟨r.1,h4,?_⟩
  have:=treeX_is hx
  rw[show treeA s (.ok r)=(some r.1,r.2.1,(r.2.2:Int),0) from if_pos h1] at this
  simp only[h3,List.isEmpty_iff.1 h2] at this
  exact this
 ·cases h
theorem awake17_key:KeyR ⟨#[97,32,98,58,32,99]⟩ 0 (some 3):=keyX_is (by decide +kernel)
theorem awake17_ok:∃ x,(decide (x.h.kind=4∧x.kids.length=2)&&(match x.kids with | [_,y]=>decide (y.h.kind=3)|_=>false))=true∧TreeZ ⟨#[97,58,10,45,32,98]⟩ 0 false (some x) [] 6 0:=
 goodX_is (s:=⟨#[97,58,10,45,32,98]⟩) (P:=fun x=>decide (x.h.kind=4∧x.kids.length=2)&&(match x.kids with | [_,y]=>decide (y.h.kind=3)|_=>false)) (by decide +kernel)
theorem awake17_bad:TreeZ ⟨#[97,58,32,98,58,32,99]⟩ 0 false none [] 3 5:=badX_is (by decide +kernel)
def bsW (w:Nat):List UInt8:=if w=0 then [45,32,112] else if w=1 then [63,32,112] else [112,58,32,113]
def bsS (k:Nat):List UInt8:=if k=0 then [45] else if k=1 then [63] else if k=2 then [107,58] else [45,45,45]
def bsG (b:Nat) (tab:Bool):List UInt8:=spc b++if tab=true then [9] else []
def bsT (b k w:Nat) (tab:Bool):List UInt8:=bsS k++bsG b tab++bsW w++[10]++if k=0∧tab=false then spc (1+b)++bsW w++[10,45,32,120,10] else []
def bsP (k:Nat) (x:NT):Bool:=match x.kids with
 | [a,c]=>decide (a.h.style=6)&&(decide (k≠0)||decide (c.h.text=[120]∧1<a.kids.length))
 | _=>false
def bsC (b k w:Nat) (tab:Bool):Bool:=
 if 2≤k then badX (mkB (bsT b k w tab)) (if k=3 then 3 else 0) (decide (k=3)) ((bsT b k w tab).length-(bsW w).length-1:Nat) 5
 else if tab=true then badX (mkB (bsT b k w tab)) 0 false ((1+b:Nat):Int) 4
 else goodX (mkB (bsT b k w tab)) 0 false (bsP k)
theorem bsC_all:∀ b∈[1,2,3,4],∀ k∈[0,1,2,3],∀ w∈[0,1,2],∀ tab∈[true,false],bsC b k w tab=true:=by decide +kernel
end Go.Proofs.YtafhgbokdfhapaaGreatDoor
namespace Go.Proofs.YtafhgbokdfhapaaGreatDoor
open Go.RowKit
attribute [local go_sem ↓] Go.wp_at_zero Go.wp_at_succ
set_option maxRecDepth 100000 in
set_option maxHeartbeats 6400000 in
theorem awake17_true {Ev:World→Prop} {P:ByteArray→Prop} (K:TreeC Ev P) (w:World) (hE:Ev w):Calls Tryz.prog 9 #[] w fun e w'=>e=.returned (.bool true)∧Below w.heap.size w w':=by
 obtain ⟨T,a,b,hF1,hTk,hTa,hTb⟩:∃ T a b,TreeZ ⟨#[97,58,10,45,32,98]⟩ 0 false (some T) [] 6 0∧T.kids=[a,b]∧T.h.kind=4∧b.h.kind=3:=by
  obtain ⟨x,h1,h2⟩:=awake17_ok
  rw[Bool.and_eq_true,decide_eq_true_eq] at h1
  obtain ⟨⟨h1,h3⟩,h4⟩:=h1
  split at h4
  ·rename_i y z hy
   exact ⟨x,y,z,h2,hy,h1,by simpa using h4⟩
  ·cases h4
 go_enter Tryz.func9,Tryz.ntmps9
 go_wp2_with fail
 refine (K.key _ ⟨#[97,32,98,58,32,99]⟩ 0 _ (by decide) (K.smp _ rfl) hE (by decide) awake17_key).mono ?_
 rintro e w1 ⟨rfl,b1⟩
 have hE1:=K.keep _ _ hE b1
 go_wp2_with fail
 refine (K.read _ _ _ _ ⟨#[97,58,10,45,32,98]⟩ _ _ _ (by decide) (K.smp _ rfl) hE1 hF1).mono ?_
 rintro e w2 ⟨cx,lx,rfl,-,hL,nx,b2⟩
 obtain ⟨lxa,lxc,rfl,-,-,-⟩:=hL
 have b2:=b1.trans (b2.mono b1.size)
 obtain ⟨kv,lv,fv,rfl,⟨la,lc,rfl,-,-,-⟩,⟨fa,fc,rfl,-,-,-⟩,⟨ka,kc,rfl,n1,n2,n3⟩⟩:=(nx _ rfl).open
 unfold maxLen at n2
 rw[hTk] at n1 n3 ⊢
 obtain ⟨kb,ko,rfl,hkb,hk⟩:=n3 (by show 0<2;decide)
 have n1:2≤kc:=n1
 rw[show ([a,b]:List NT).length=2 from rfl]
 obtain ⟨q0,q1,q2,q3,q4,q5,q6,q7,q8,q9,q10,q11,hN2,g0,g1,g2,g3,g4,g5,g6,g7,g8,g9,g10,g11⟩:=kid_cells hk (j:=1) (by show 1<2;decide)
 have e0:q0=.int .i64 3:=by
  obtain ⟨a',b',c',e,_⟩:=hN2.open
  unfold headC at e
  simp only[List.cons.injEq] at e
  rw[e.1]
  show Value.int .i64 b.h.kind=_
  rw[hTb]
 have t0:w2.cell? ⟨kb,ko+12,none⟩=some (.int .i64 3):=by rw[e0] at g0;simpa using g0
 have HKB:kb<w2.heap.size:=hkb
 clear g0 g1 g2 g3 g4 g5 g6 g7 g8 g9 g10 g11 hN2 hk e0 n3 hkb nx hTk hTb hF1
 unfold headC
 rw[hTa]
 generalize (⟨T.h.anchor.toArray⟩:ByteArray)=s1
 generalize (⟨T.h.tag.toArray⟩:ByteArray)=s2
 generalize (⟨T.h.text.toArray⟩:ByteArray)=s3
 generalize (⟨T.h.trail.toArray⟩:ByteArray)=s4
 go_wp2_with fail
 obtain ⟨WX,hWX⟩:∃ WX:World,WX=w2.alloc (.cells #[.int .i64 4,.int .i64 T.h.style,.int .i64 T.h.at',.int .i64 T.h.blank,.string s1,.string s2,.string s3,.slice (some ⟨kb,ko,none⟩) 2 kc,.slice la T.h.lead.length lc,.slice fa T.h.foot.length fc,.bool T.h.ht,.string s4] 29):=⟨_,rfl⟩
 have r7:WX.cell? ⟨w2.heap.size,7,none⟩=some (.slice (some ⟨kb,ko,none⟩) 2 kc):=by rw[hWX];exact World.cell?_alloc_mark ..
 have r0:WX.cell? ⟨w2.heap.size,0,none⟩=some (.int .i64 4):=by rw[hWX];exact World.cell?_alloc_mark ..
 have z1:WX.heap.size=w2.heap.size+1:=by rw[hWX];simp
 have z2:Below w2.heap.size w2 WX:=by rw[hWX];exact (Below.refl _ _).alloc (Nat.le_refl _) _
 rw[←hWX]
 clear hWX
 have t0':WX.cell? ⟨kb,ko+12,none⟩=some (.int .i64 3):=(z2.cell (p:=⟨kb,ko+12,none⟩) HKB).trans t0
 have hb3:=b2.trans (z2.mono b2.size)
 have hEt:=K.keep _ _ hE hb3
 refine (K.read _ _ _ _ ⟨#[97,58,32,98,58,32,99]⟩ _ _ _ (by decide) (K.smp _ rfl) hEt awake17_bad).mono ?_
 rintro e w3 ⟨cy,ly2,rfl,ly,-,-,b3⟩
 have r7':=(b3.cell (p:=⟨w2.heap.size,7,none⟩) (by show w2.heap.size<_;omega)).trans r7
 have r0':=(b3.cell (p:=⟨w2.heap.size,0,none⟩) (by show w2.heap.size<_;omega)).trans r0
 have t0'':=(b3.cell (p:=⟨kb,ko+12,none⟩) (by show kb<_;omega)).trans t0'
 clear t0 t0' r7 r0
 obtain ⟨i1,i2,i3,i4,u1,u2,u3,a1,m1,d1,a2,m2,d2,a3,m3,d3,bo,u4,rfl⟩:=ly
 have z3:w2.heap.size<w3.heap.size:=by have:=b3.size;omega
 have z4:kb<w3.heap.size:=by omega
 have hb4:=hb3.trans (b3.mono hb3.size)
 go_wp2
 go_ret
 exact ⟨rfl,hb4.alloc hb4.size _⟩
end Go.Proofs.YtafhgbokdfhapaaGreatDoor

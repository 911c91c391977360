/- Parts of the proof of TreeItems, put together from smaller texts (blanks that Lean does not want are struck). Conditions: those that each theorem writes out. -/
import Derived.BigQuiet
import Derived.Deep.DeepCutAuto
import Derived.Deep.DrawnRows
import Derived.Deep.LoopGhost
import Derived.Deep.RegionHeld3
import Derived.Deep.RegionWith
import Derived.Laws.Cover4
import Derived.Lib.MapLaws
import Derived.Shelf.LaysC
import Derived.Shelf.LaysM
import Derived.Shelf.Small.Strs
import Derived.Shelf.Small.Utf8
import Derived.Shelf.Small.Wraps
import Derived.Shelf.Strconv.Clone
import Derived.Shelf.Strconv.SyntaxError
import Derived.Shelf.Strconv.ToError
import Derived.Shelf.Strings.AsciiSet
import Derived.Shelf.Strings.Builder1
import Derived.Shelf.Strings.BuilderF
import Derived.Shelf.Strings.BuilderK
import Derived.Shelf.Strings.BuilderRune
import Derived.Shelf.Strings.Count
import Derived.Shelf.Strings.LastIndex
import Derived.Shelf.Strings.Prefix
import Derived.Shelf.Strings.Runes
import Derived.Shelf.Strings.Search1
import Derived.Shelf.Strings.Search2
import Derived.Shelf.Strings.Search3
import Derived.Shelf.Strings.Shaped
import Derived.Shelf.Strings.Split
import Derived.Shelf.Strings.Trim
import Derived.Shelf.Unicode.DecodeSlow
import Derived.Test.YtafhgbokdfhapaaGreatDoorETreeItems0
import Derived.Test.YtafhgbokdfhapaaGreatDoorETreeItems1
import Derived.Test.YtafhgbokdfhapaaGreatDoorETreeItems2
import Derived.Test.YtafhgbokdfhapaaGreatDoorETreeItems3
import Derived.Test.YtafhgbokdfhapaaGreatDoorProg
import Derived.Test.YtafhgbokdfhapaaGreatDoorZ00
import Derived.Test.YtafhgbokdfhapaaGreatDoorZ01
import Derived.Test.YtafhgbokdfhapaaGreatDoorZ02
import Derived.Test.YtafhgbokdfhapaaGreatDoorZ04
import Derived.Test.YtafhgbokdfhapaaGreatDoorZ10
import Derived.Test.YtafhgbokdfhapaaGreatDoorZ12
import Derived.Test.YtafhgbokdfhapaaGreatDoorZ16
import Derived.Test.YtafhgbokdfhapaaGreatDoorZ29
namespace Go.Proofs.YtafhgbokdfhapaaGreatDoor
open Go.RowKit
attribute [local go_sem ↓] Go.wp_at_zero Go.wp_at_succ
set_option maxRecDepth 100000 in
set_option maxHeartbeats 6400000 in
theorem awake17_true {Ev:World→Prop} {P:ByteArray→Prop} (K:TreeC Ev P) (w:World) (hE:Ev w):Calls Tryz.prog 9 #[] w fun e w'=>e=.returned (.bool true)∧Below w.heap.size w w':=by
 obtain ⟨T,a,b,hF1,hTk,hTa,hTb⟩:∃ T a b,TreeZ ⟨#[97,58,10,45,32,98]⟩ 0 false (some T) [] 6 0∧T.kids=[a,b]∧T.h.kind=4∧b.h.kind=3:=by
  obtain ⟨x,h1,h2⟩:=awake17_ok
  rw[Bool.and_eq_true,decide_eq_true_eq] at h1
  obtain ⟨⟨h1,h3⟩,h4⟩:=h1
  split at h4
  ·rename_i y z hy
   exact ⟨x,y,z,h2,hy,h1,by simpa using h4⟩
  ·cases h4
 go_enter Tryz.func9,Tryz.ntmps9
 go_wp2_with fail
 refine (K.key _ ⟨#[97,32,98,58,32,99]⟩ 0 _ (by decide) (K.smp _ rfl) hE (by decide) awake17_key).mono ?_
 rintro e w1 ⟨rfl,b1⟩
 have hE1:=K.keep _ _ hE b1
 go_wp2_with fail
 refine (K.read _ _ _ _ ⟨#[97,58,10,45,32,98]⟩ _ _ _ (by decide) (K.smp _ rfl) hE1 hF1).mono ?_
 rintro e w2 ⟨cx,lx,rfl,-,hL,nx,b2⟩
 obtain ⟨lxa,lxc,rfl,-,-,-⟩:=hL
 have b2:=b1.trans (b2.mono b1.size)
 obtain ⟨kv,lv,fv,rfl,⟨la,lc,rfl,-,-,-⟩,⟨fa,fc,rfl,-,-,-⟩,⟨ka,kc,rfl,n1,n2,n3⟩⟩:=(nx _ rfl).open
 unfold maxLen at n2
 rw[hTk] at n1 n3 ⊢
 obtain ⟨kb,ko,rfl,hkb,hk⟩:=n3 (by show 0<2;decide)
 have n1:2≤kc:=n1
 rw[show ([a,b]:List NT).length=2 from rfl]
 obtain ⟨q0,q1,q2,q3,q4,q5,q6,q7,q8,q9,q10,q11,hN2,g0,g1,g2,g3,g4,g5,g6,g7,g8,g9,g10,g11⟩:=kid_cells hk (j:=1) (by show 1<2;decide)
 have e0:q0=.int .i64 3:=by
  obtain ⟨a',b',c',e,_⟩:=hN2.open
  unfold headC at e
  simp only[List.cons.injEq] at e
  rw[e.1]
  show Value.int .i64 b.h.kind=_
  rw[hTb]
 have t0:w2.cell? ⟨kb,ko+12,none⟩=some (.int .i64 3):=by rw[e0] at g0;simpa using g0
 have HKB:kb<w2.heap.size:=hkb
 clear g0 g1 g2 g3 g4 g5 g6 g7 g8 g9 g10 g11 hN2 hk e0 n3 hkb nx hTk hTb hF1
 unfold headC
 rw[hTa]
 generalize (⟨T.h.anchor.toArray⟩:ByteArray)=s1
 generalize (⟨T.h.tag.toArray⟩:ByteArray)=s2
 generalize (⟨T.h.text.toArray⟩:ByteArray)=s3
 generalize (⟨T.h.trail.toArray⟩:ByteArray)=s4
 go_wp2_with fail
 obtain ⟨WX,hWX⟩:∃ WX:World,WX=w2.alloc (.cells #[.int .i64 4,.int .i64 T.h.style,.int .i64 T.h.at',.int .i64 T.h.blank,.string s1,.string s2,.string s3,.slice (some ⟨kb,ko,none⟩) 2 kc,.slice la T.h.lead.length lc,.slice fa T.h.foot.length fc,.bool T.h.ht,.string s4] 29):=⟨_,rfl⟩
 have r7:WX.cell? ⟨w2.heap.size,7,none⟩=some (.slice (some ⟨kb,ko,none⟩) 2 kc):=by rw[hWX];exact World.cell?_alloc_mark ..
 have r0:WX.cell? ⟨w2.heap.size,0,none⟩=some (.int .i64 4):=by rw[hWX];exact World.cell?_alloc_mark ..
 have z1:WX.heap.size=w2.heap.size+1:=by rw[hWX];simp
 have z2:Below w2.heap.size w2 WX:=by rw[hWX];exact (Below.refl _ _).alloc (Nat.le_refl _) _
 rw[←hWX]
 clear hWX
 have t0':WX.cell? ⟨kb,ko+12,none⟩=some (.int .i64 3):=(z2.cell (p:=⟨kb,ko+12,none⟩) HKB).trans t0
 have hb3:=b2.trans (z2.mono b2.size)
 have hEt:=K.keep _ _ hE hb3
 refine (K.read _ _ _ _ ⟨#[97,58,32,98,58,32,99]⟩ _ _ _ (by decide) (K.smp _ rfl) hEt awake17_bad).mono ?_
 rintro e w3 ⟨cy,ly2,rfl,ly,-,-,b3⟩
 have r7':=(b3.cell (p:=⟨w2.heap.size,7,none⟩) (by show w2.heap.size<_;omega)).trans r7
 have r0':=(b3.cell (p:=⟨w2.heap.size,0,none⟩) (by show w2.heap.size<_;omega)).trans r0
 have t0'':=(b3.cell (p:=⟨kb,ko+12,none⟩) (by show kb<_;omega)).trans t0'
 clear t0 t0' r7 r0
 obtain ⟨i1,i2,i3,i4,u1,u2,u3,a1,m1,d1,a2,m2,d2,a3,m3,d3,bo,u4,rfl⟩:=ly
 have z3:w2.heap.size<w3.heap.size:=by have:=b3.size;omega
 have z4:kb<w3.heap.size:=by omega
 have hb4:=hb3.trans (b3.mono hb3.size)
 go_wp2
 go_ret
 exact ⟨rfl,hb4.alloc hb4.size _⟩
end Go.Proofs.YtafhgbokdfhapaaGreatDoor

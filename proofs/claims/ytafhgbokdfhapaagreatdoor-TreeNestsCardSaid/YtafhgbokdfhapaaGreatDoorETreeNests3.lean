/- Parts of the proof of TreeNests, put together from smaller texts (blanks that Lean does not want are struck). Conditions: those that each theorem writes out. -/
import Derived.BigQuiet
import Derived.Deep.DeepCutAuto
import Derived.Deep.DrawnRows
import Derived.Deep.LoopGhost
import Derived.Deep.RegionHeld3
import Derived.Deep.RegionWith
import Derived.Laws.Cover4
import Derived.Lib.MapLaws
import Derived.Shelf.LaysC
import Derived.Shelf.LaysM
import Derived.Shelf.Small.Strs
import Derived.Shelf.Small.Utf8
import Derived.Shelf.Small.Wraps
import Derived.Shelf.Strconv.Clone
import Derived.Shelf.Strconv.SyntaxError
import Derived.Shelf.Strconv.ToError
import Derived.Shelf.Strings.AsciiSet
import Derived.Shelf.Strings.Builder1
import Derived.Shelf.Strings.BuilderF
import Derived.Shelf.Strings.BuilderK
import Derived.Shelf.Strings.BuilderRune
import Derived.Shelf.Strings.Count
import Derived.Shelf.Strings.LastIndex
import Derived.Shelf.Strings.Prefix
import Derived.Shelf.Strings.Runes
import Derived.Shelf.Strings.Search1
import Derived.Shelf.Strings.Search2
import Derived.Shelf.Strings.Search3
import Derived.Shelf.Strings.Shaped
import Derived.Shelf.Strings.Split
import Derived.Shelf.Strings.Trim
import Derived.Shelf.Unicode.DecodeSlow
import Derived.Test.YtafhgbokdfhapaaGreatDoorETreeNests0
import Derived.Test.YtafhgbokdfhapaaGreatDoorETreeNests1
import Derived.Test.YtafhgbokdfhapaaGreatDoorETreeNests2
import Derived.Test.YtafhgbokdfhapaaGreatDoorProg
import Derived.Test.YtafhgbokdfhapaaGreatDoorZ00
import Derived.Test.YtafhgbokdfhapaaGreatDoorZ01
import Derived.Test.YtafhgbokdfhapaaGreatDoorZ02
import Derived.Test.YtafhgbokdfhapaaGreatDoorZ04
import Derived.Test.YtafhgbokdfhapaaGreatDoorZ10
import Derived.Test.YtafhgbokdfhapaaGreatDoorZ12
import Derived.Test.YtafhgbokdfhapaaGreatDoorZ16
import Derived.Test.YtafhgbokdfhapaaGreatDoorZ29
namespace Go.Proofs.YtafhgbokdfhapaaGreatDoor
open Go.RowKit
def badX (s:ByteArray) (at':Int) (beside:Bool) (E C:Int):Bool:=match treeX s at' beside with
 | some (.bad p c)=>decide ((p:Int)=E∧c=C)
 | some (.ok r)=>!(overB s r.2.2)&&decide ((r.2.2:Int)=E∧C=5)
 | none=>false
theorem badX_is {s:ByteArray} {at':Int} {beside:Bool} {E C:Int} (h:badX s at' beside E C=true):TreeZ s at' beside none [] E C:=by
 unfold badX at h
 split at h
 ·rename_i p c hx
  rw[decide_eq_true_eq] at h
  obtain ⟨rfl,rfl⟩:=h
  exact treeX_is hx
 ·rename_i r hx
  rw[Bool.and_eq_true,decide_eq_true_eq] at h
  obtain ⟨h1,rfl,rfl⟩:=h
  have:=treeX_is hx
  rw[show treeA s (.ok r)=(none,[],(r.2.2:Int),5) from if_neg (show ¬ (overB s r.2.2=true) by simpa using h1)] at this
  exact this
 ·cases h
def goodX (s:ByteArray) (at':Int) (beside:Bool) (P:NT→Bool):Bool:=match treeX s at' beside with
 | some (.ok r)=>overB s r.2.2&&(r.2.1.isEmpty&&(decide (r.2.2=s.size)&&P r.1))
 | _=>false
theorem goodX_is {s:ByteArray} {at':Int} {beside:Bool} {P:NT→Bool} (h:goodX s at' beside P=true):∃ x,P x=true∧TreeZ s at' beside (some x) [] (s.size:Int) 0:=by
 unfold goodX at h
 split at h
 ·rename_i r hx
  rw[Bool.and_eq_true,Bool.and_eq_true,Bool.and_eq_true,decide_eq_true_eq] at h
  obtain ⟨h1,h2,h3,h4⟩:=h
  refine ⟨r.1,h4,?_⟩
  have:=treeX_is hx
  rw[show treeA s (.ok r)=(some r.1,r.2.1,(r.2.2:Int),0) from if_pos h1] at this
  simp only[h3,List.isEmpty_iff.1 h2] at this
  exact this
 ·cases h
theorem awake17_key:KeyR ⟨#[97,32,98,58,32,99]⟩ 0 (some 3):=keyX_is (by decide +kernel)
theorem awake17_ok:∃ x,(decide (x.h.kind=4∧x.kids.length=2)&&(match x.kids with | [_,y]=>decide (y.h.kind=3)|_=>false))=true∧TreeZ ⟨#[97,58,10,45,32,98]⟩ 0 false (some x) [] 6 0:=
 goodX_is (s:=⟨#[97,58,10,45,32,98]⟩) (P:=fun x=>decide (x.h.kind=4∧x.kids.length=2)&&(match x.kids with | [_,y]=>decide (y.h.kind=3)|_=>false)) (by decide +kernel)
theorem awake17_bad:TreeZ ⟨#[97,58,32,98,58,32,99]⟩ 0 false none [] 3 5:=badX_is (by decide +kernel)
end Go.Proofs.YtafhgbokdfhapaaGreatDoor
namespace Go.Proofs.YtafhgbokdfhapaaGreatDoor
open Go.RowKit
attribute [local go_sem ↓] Go.wp_at_zero Go.wp_at_succ
set_option maxRecDepth 100000 in
set_option maxHeartbeats 6400000 in
theorem awake17_true {Ev:World→Prop} {P:ByteArray→Prop} (K:TreeC Ev P) (w:World) (hE:Ev w):Calls Tryz.prog 9 #[] w fun e w'=>e=.returned (.bool true)∧Below w.heap.size w w':=by
 obtain ⟨T,a,b,hF1,hTk,hTa,hTb⟩:∃ T a b,TreeZ ⟨#[97,58,10,45,32,98]⟩ 0 false (some T) [] 6 0∧T.kids=[a,b]∧T.h.kind=4∧b.h.kind=3:=by
  obtain ⟨x,h1,h2⟩:=awake17_ok
  rw[Bool.and_eq_true,decide_eq_true_eq] at h1
  obtain ⟨⟨h1,h3⟩,h4⟩:=h1
  split at h4
  ·rename_i y z hy
   exact ⟨x,y,z,h2,hy,h1,by simpa using h4⟩
  ·cases h4
 go_enter Tryz.func9,Tryz.ntmps9
 go_wp2_with fail
 refine (K.key _ ⟨#[97,32,98,58,32,99]⟩ 0 _ (by decide) (K.smp _ rfl) hE (by decide) awake17_key).mono ?_
 rintro e w1 ⟨rfl,b1⟩
 have hE1:=K.keep _ _ hE b1
 go_wp2_with fail
 refine (K.read _ _ _ _ ⟨#[97,58,10,45,32,98]⟩ _ _ _ (by decide) (K.smp _ rfl) hE1 hF1).mono ?_
 rintro e w2 ⟨cx,lx,rfl,-,hL,nx,b2⟩
 obtain ⟨lxa,lxc,rfl,-,-,-⟩:=hL
 have b2:=b1.trans (b2.mono b1.size)
 obtain ⟨kv,lv,fv,rfl,⟨la,lc,rfl,-,-,-⟩,⟨fa,fc,rfl,-,-,-⟩,⟨ka,kc,rfl,n1,n2,n3⟩⟩:=(nx _ rfl).open
 unfold maxLen at n2
 rw[hTk] at n1 n3 ⊢
 obtain ⟨kb,ko,rfl,hkb,hk⟩:=n3 (by show 0<2;decide)
 have n1:2≤kc:=n1
 rw[show ([a,b]:List NT).length=2 from rfl]
 obtain ⟨q0,q1,q2,q3,q4,q5,q6,q7,q8,q9,q10,q11,hN2,g0,g1,g2,g3,g4,g5,g6,g7,g8,g9,g10,g11⟩:=kid_cells hk (j:=1) (by show 1<2;decide)
 have e0:q0=.int .i64 3:=by
  obtain ⟨a',b',c',e,_⟩:=hN2.open
  unfold headC at e
  simp only[List.cons.injEq] at e
  rw[e.1]
  show Value.int .i64 b.h.kind=_
  rw[hTb]
 have t0:w2.cell? ⟨kb,ko+12,none⟩=some (.int .i64 3):=by rw[e0] at g0;simpa using g0
 have HKB:kb<w2.heap.size:=hkb
 clear g0 g1 g2 g3 g4 g5 g6 g7 g8 g9 g10 g11 hN2 hk e0 n3 hkb nx hTk hTb hF1
 unfold headC
 rw[hTa]
 generalize (⟨T.h.anchor.toArray⟩:ByteArray)=s1
 generalize (⟨T.h.tag.toArray⟩:ByteArray)=s2
 generalize (⟨T.h.text.toArray⟩:ByteArray)=s3
 generalize (⟨T.h.trail.toArray⟩:ByteArray)=s4
 go_wp2_with fail
 obtain ⟨WX,hWX⟩:∃ WX:World,WX=w2.alloc (.cells #[.int .i64 4,.int .i64 T.h.style,.int .i64 T.h.at',.int .i64 T.h.blank,.string s1,.string s2,.string s3,.slice (some ⟨kb,ko,none⟩) 2 kc,.slice la T.h.lead.length lc,.slice fa T.h.foot.length fc,.bool T.h.ht,.string s4] 29):=⟨_,rfl⟩
 have r7:WX.cell? ⟨w2.heap.size,7,none⟩=some (.slice (some ⟨kb,ko,none⟩) 2 kc):=by rw[hWX];exact World.cell?_alloc_mark ..
 have r0:WX.cell? ⟨w2.heap.size,0,none⟩=some (.int .i64 4):=by rw[hWX];exact World.cell?_alloc_mark ..
 have z1:WX.heap.size=w2.heap.size+1:=by rw[hWX];simp
 have z2:Below w2.heap.size w2 WX:=by rw[hWX];exact (Below.refl _ _).alloc (Nat.le_refl _) _
 rw[←hWX]
 clear hWX
 have t0':WX.cell? ⟨kb,ko+12,none⟩=some (.int .i64 3):=(z2.cell (p:=⟨kb,ko+12,none⟩) HKB).trans t0
 have hb3:=b2.trans (z2.mono b2.size)
 have hEt:=K.keep _ _ hE hb3
 refine (K.read _ _ _ _ ⟨#[97,58,32,98,58,32,99]⟩ _ _ _ (by decide) (K.smp _ rfl) hEt awake17_bad).mono ?_
 rintro e w3 ⟨cy,ly2,rfl,ly,-,-,b3⟩
 have r7':=(b3.cell (p:=⟨w2.heap.size,7,none⟩) (by show w2.heap.size<_;omega)).trans r7
 have r0':=(b3.cell (p:=⟨w2.heap.size,0,none⟩) (by show w2.heap.size<_;omega)).trans r0
 have t0'':=(b3.cell (p:=⟨kb,ko+12,none⟩) (by show kb<_;omega)).trans t0'
 clear t0 t0' r7 r0
 obtain ⟨i1,i2,i3,i4,u1,u2,u3,a1,m1,d1,a2,m2,d2,a3,m3,d3,bo,u4,rfl⟩:=ly
 have z3:w2.heap.size<w3.heap.size:=by have:=b3.size;omega
 have z4:kb<w3.heap.size:=by omega
 have hb4:=hb3.trans (b3.mono hb3.size)
 go_wp2
 go_ret
 exact ⟨rfl,hb4.alloc hb4.size _⟩
end Go.Proofs.YtafhgbokdfhapaaGreatDoor
namespace Go.Proofs.YtafhgbokdfhapaaGreatDoor
open Go.RowKit
section
variable {s:ByteArray} {blk:Nat→Nat→Rd Tre→Prop}
end
theorem blk_seq {s:ByteArray} {g deep p:Nat} {r:List NT × Coms × Nat} (hd:deep<40) (m1:markB s p 45=true) (h:SeqT s (blkR s g) (colF s p) (deep+1) (.ok r) p [] []):blkR s (g+1) deep p (.ok (.mk ⟨3,6,p,0,[],[],[],[],[],false,[]⟩ r.1,r.2)):=by
 refine .inr ⟨hd,?_⟩
 rw[if_pos m1]
 exact .ok h rfl
theorem blk_map {s:ByteArray} {g deep p:Nat} {r:List NT × Coms × Nat} (hd:deep<40) (m1:markB s p 45=false) (h:MapT s (blkR s g) (colF s p) (deep+1) (.ok r) p [] []):blkR s (g+1) deep p (.ok (.mk ⟨4,6,p,0,[],[],[],[],[],false,[]⟩ r.1,r.2)):=by
 refine .inr ⟨hd,?_⟩
 rw[if_neg (by rw[m1];decide)]
 exact .ok h rfl
end Go.Proofs.YtafhgbokdfhapaaGreatDoor
namespace Go.Proofs.YtafhgbokdfhapaaGreatDoor
open Go.RowKit
def ngW:List (List UInt8):=[[120],[121]]
def ngU:List (List UInt8):=[[45,10],[122,58]]
def ngV:List (List UInt8):=[[45,32],[120,58],[101,110]]
theorem ng_pass:∀ w∈ngW,wS false (2*(32 :: w).length+2) (32 :: w) false false true [] false=some ([],false,1):=by decide +kernel
theorem ng_plain:∀ w∈ngW,∀ c∈List.range 30,∀ u∈ngU,plainK (c:Int) false (w++(10 :: (spc c++u)))=some 1:=by decide +kernel
theorem ng_gap:∀ c∈List.range 30,∀ u∈ngU,wS false (2*(10 :: (spc c++u)).length+2) (10 :: (spc c++u)) false false true [] false=some ([],false,1+c):=by decide +kernel
theorem ng_gap2:∀ c∈List.range 30,∀ u∈ngV,wS false (2*(10 :: (spc c++u)).length+2) (10 :: (spc c++u)) false false true [] false=some ([],false,1+c):=by decide +kernel
theorem ng_end:∀ c∈List.range 30,plainK (c:Int) true [101,110,100,10]=some 3:=by decide +kernel
theorem ng_key:∀ y∈([120,122]:List UInt8),∀ v∈([32,10]:List UInt8),plainK 0 false [y,58,v]=some 1:=by decide +kernel
def nestC:List (Bool × Nat)→Nat→Nat
 | [],c=>c+1
 | _ :: _,c=>c
def nestB:List (Bool × Nat)→Nat→List UInt8
 | [],_=>[101,110,100,10]
 | (true,m) :: r,c=>45 :: 32 :: 120 :: 10 :: (spc c++(45 :: 10 :: (spc (nestC r (c+m))++nestB r (c+m))))
 | (false,m) :: r,c=>120 :: 58 :: 32 :: 121 :: 10 :: (spc c++(122 :: 58 :: 10 :: (spc (nestC r (c+m))++nestB r (c+m))))
def nestT:List (Bool × Nat)→NT
 | []=>leafN 1 0 [101,110,100]
 | (true,_) :: r=>.mk ⟨3,6,0,0,[],[],[],[],[],false,[]⟩ [leafN 1 0 [120],nestT r]
 | (false,_) :: r=>.mk ⟨4,6,0,0,[],[],[],[],[],false,[]⟩ [leafN 1 0 [120],leafN 1 0 [121],leafN 1 0 [122],nestT r]
def okN:List (Bool × Nat)→Prop
 | []=>True
 | (b,m) :: r=>(1≤m∨r=[]∨(b=false∧∃ m2 r2,r=(true,m2) :: r2))∧okN r
def sumN:List (Bool × Nat)→Nat
 | []=>0
 | (_,m) :: r=>m+sumN r
theorem nest_head (r:List (Bool × Nat)) (c:Nat):∃ u l,nestB r c=u++l∧u∈ngV∧u.length=2:=by
 match r with
 | []=>exact ⟨[101,110],[100,10],rfl,by simp[ngV],rfl⟩
 | (true,m) :: r=>exact ⟨[45,32],_,rfl,by simp[ngV],rfl⟩
 | (false,m) :: r=>exact ⟨[120,58],_,rfl,by simp[ngV],rfl⟩
theorem leaf_alike (st:Int) (p q:Nat) (T:List UInt8):AlikeT (leafN st p T) (leafN st q T):=by
 unfold leafN AlikeT AlikeL
 exact ⟨⟨rfl,rfl,rfl,rfl,rfl⟩,rfl⟩
theorem spc_byte {s:ByteArray} {p c:Nat} {l:List UInt8} (h:Pre s p (spc c++l)):∀ j,j<c→byt s (p+j)=32:=fun j hj=>by
 have:=h.app.1.byte j (by rw[spc_len];omega)
 rw[this]
 have:(spc c).getD j 0=32:=by
  simp only[List.getD]
  rw[List.getElem?_eq_getElem (by rw[spc_len];omega),Option.getD_some]
  exact spc_mem (List.getElem_mem _)
 rw[this];rfl
section
variable {s:ByteArray} {blk:Nat→Nat→Rd Tre→Prop}
theorem row_next {e c:Nat} {l:List UInt8} (h:Pre s e (10 :: (spc c++l))):Pre s (e+(1+c)) l∧colF s (e+(1+c))=c∧sameRow s e (e+(1+c))=false:=by
 obtain ⟨h1,h2,h3⟩:=h.cons
 have hb:=spc_byte h3
 obtain ⟨_,a2⟩:=h3.app
 rw[spc_len] at a2
 rw[show e+(1+c)=e+1+c by omega]
 refine ⟨a2,colF_at (.inr (by rw[Nat.add_sub_cancel];exact h2)) c (fun j hj=>by rw[hb j hj];decide),?_⟩
 refine Bool.eq_false_iff.2 fun e2=>?_
 unfold sameRow at e2
 exact of_decide_eq_true e2 e (by omega) (Nat.le_refl _) h2
theorem ng_word {k:Spt} {c p:Nat} {w u l:List UInt8} (hkn:k.n=(c:Int)) (hc:c∈List.range 30) (hw:w∈ngW) (hu:u∈ngU) (h0:0<p) (hb:byt s (p-1)≠10) (hwh:U.white (byt s (p-1):Int)=false) (hp:p≤s.size)
  (h:Pre s p (32 :: (w++(10 :: (spc c++(u++l)))))):nodT s blk k p (.ok (leafN 1 (p+1) w,[],p+1+1+(1+c))):=by
 have hwl:w.length=1:=by unfold ngW at hw;simp at hw;rcases hw with rfl|rfl <;> rfl
 obtain ⟨a1,a2,a3⟩:=h.cons
 have a2:byt s p=32:=a2
 obtain ⟨L,hL,hpass⟩:=pass_of (fin:=false) h0 (show Pre s p (32 :: w) from (show Pre s p ((32 :: w)++(10 :: (spc c++(u++l)))) from h).app.1) (fun e=>by cases e) hb hwh (ng_pass w hw) hp
 obtain rfl:L=[]:=List.map_eq_nil_iff.1 hL
 have hwin:Pre s (p+1) (w++(10 :: (spc c++u))):=(show Pre s (p+1) ((w++(10 :: (spc c++u)))++l) by simpa [List.append_assoc] using a3).app.1
 obtain ⟨hZ,hB,hP⟩:=plain_ofK hwin (by omega) (fun e=>by cases e) (ng_plain w hw c hc u hu)
 have htk:List.take 1 (w++(10 :: (spc c++u)))=w:=by rw[←hwl];exact List.take_left
 rw[htk] at hZ
 have hlt:=(beg_not hB).1
 have hsr:sameRow s p (p+1)=true:=sameRow_of (l:=[32]) (show Pre s p [32] from (show Pre s p ([32]++(w++(10 :: (spc c++(u++l))))) from h).app.1) (fun x hx=>by simp at hx;rw[hx];decide)
 have hn:noneB s k.n k.bare k.flat p (p+1)=false:=by
  unfold noneB
  rw[over_in hlt (.inl (row0_in (by omega) (by rw[Nat.add_sub_cancel,a2];decide))),hsr,Bool.or_true]
  rfl
 obtain ⟨b1,b2⟩:=a3.app
 rw[hwl] at b2
 obtain ⟨c1,c2,c3⟩:=b2.cons
 have hlf:=row_lfT c1 c2
 have hwb:byt s (p+1)=120∨byt s (p+1)=121:=by
  unfold ngW at hw;simp at hw
  rcases hw with rfl|rfl
  ·exact .inl b1.cons.2.1
  ·exact .inr b1.cons.2.1
 have hwin2:Pre s (p+1+1) (10 :: (spc c++u)):=(show Pre s (p+1+1) ((10 :: (spc c++u))++l) by simpa [List.append_assoc] using b2).app.1
 obtain ⟨L2,hL2,hpass2⟩:=pass_of (fin:=false) (by omega) hwin2 (fun e=>by cases e) (by rw[Nat.add_sub_cancel];rcases hwb with e|e <;> rw[e] <;> decide) (by rw[Nat.add_sub_cancel];rcases hwb with e|e <;> rw[e] <;> decide) (ng_gap c hc u hu) (Nat.le_of_lt c1)
 obtain rfl:L2=[]:=List.map_eq_nil_iff.1 hL2
 have hkZ:PlaiZ s ((p+1:Nat):Int) k.n false w ((p+1+1:Nat):Int) true 0:=by rw[hkn];exact hZ
 exact nod_plain (blk:=blk) (k:=k) (m:=1) hpass hn hB hP hkZ hlf.1 hlf.2 (.inl rfl) hpass2
theorem nkey {p:Nat} {y v:UInt8} {l:List UInt8} (hy:y=120∨y=122) (hv:v=32∨v=10) (hp:p≤s.size) (h:Pre s p (y :: 58 :: v :: l)):∃ t,begB s (p:Int) false=true∧ParN s false p (p+1)∧pieceL s p (p+1)=[y]∧RowE s (p+1) t∧FirN s (p+1) t (p+1)∧markB s (p+1) 58=true∧overB s p=false:=by
 have hwin:Pre s p [y,58,v]:=(show Pre s p ([y,58,v]++l) from h).app.1
 obtain ⟨_,hB,hP⟩:=plain_ofK hwin hp (fun e=>by cases e) (ng_key y (by rcases hy with rfl|rfl <;> decide) v (by rcases hv with rfl|rfl <;> decide))
 obtain ⟨a1,a2,a3⟩:=h.cons
 obtain ⟨b1,b2,b3⟩:=a3.cons
 obtain ⟨c1,c2,_⟩:=b3.cons
 have b2':byt s (p+1)=58:=b2
 obtain ⟨t,ht⟩:=RowE.ex s (p+1) (by omega)
 refine ⟨t,hB,hP,(show Pre s p ([y]++(58 :: v :: l)) from h).piece,ht,⟨Nat.le_refl _,ht.1,fun j j1 j2=>by omega,.inr (by rw[b2'];decide)⟩,?_,over_in (beg_not hB).1 (.inr ⟨m3_not (.inr (isB_no (by rw[b2'];decide))),m3_not (.inr (isB_no (by rw[b2'];decide)))⟩)⟩
 unfold markB
 rw[isB_in.2 ⟨b1,b2'⟩,endsB_in s _ c1,c2]
 rcases hv with rfl|rfl <;> decide
theorem dash_n {p:Nat} {v:UInt8} {l:List UInt8} (hv:v=32∨v=10) (h:Pre s p (45 :: v :: l)):markB s p 45=true∧overB s p=false:=by
 obtain ⟨h1,h2,h3⟩:=h.cons
 obtain ⟨g1,g2,_⟩:=h3.cons
 have h2':byt s p=45:=h2
 have g3:byt s (p+1)≠45∧byt s (p+1)≠46:=by rw[g2];rcases hv with rfl|rfl <;> decide
 refine ⟨?_,over_in h1 (.inr ⟨m3_not (.inr (isB_no g3.1)),m3_not (.inr (isB_no g3.2))⟩)⟩
 unfold markB
 rw[isB_in.2 ⟨h1,h2'⟩,endsB_in s _ g1,g2]
 rcases hv with rfl|rfl <;> decide
theorem nest_node {r:List (Bool × Nat)} {c p:Nat} {k:Spt} (hc:nestC r c<30) (hkb:k.bare=false) (hkn:∃ n0:Nat,n0<30∧k.n=(n0:Int)) (hk:k.n<(nestC r c:Int)∨(k.n=(nestC r c:Int)∧k.flat=true∧∃ m r2,r=(true,m) :: r2)) (h0:0<p) (hb:byt s (p-1)=45∨byt s (p-1)=58) (hp:p≤s.size)
  (h:Pre s p (10 :: (spc (nestC r c)++nestB r c))) (hs:s.size=p+(10 :: (spc (nestC r c)++nestB r c)).length)
  (hx:r≠[]→∃ x,AlikeT x (nestT r)∧blk k.deep (p+(1+nestC r c)) (.ok (x,[],s.size))):∃ x,AlikeT x (nestT r)∧nodT s blk k p (.ok (x,[],s.size)):=by
 obtain ⟨u,l,hul,hu,hu2⟩:=nest_head r c
 have hwin:Pre s p (10 :: (spc (nestC r c)++u)):=(show Pre s p ((10 :: (spc (nestC r c)++u))++l) by rw[hul] at h;simpa [List.append_assoc] using h).app.1
 obtain ⟨L,hL,hpass⟩:=pass_of (fin:=false) h0 hwin (fun e=>by cases e) (by rcases hb with e|e <;> rw[e] <;> decide) (by rcases hb with e|e <;> rw[e] <;> decide) (ng_gap2 _ (List.mem_range.2 hc) u hu) hp
 obtain rfl:L=[]:=List.map_eq_nil_iff.1 hL
 obtain ⟨n1,n2,n3⟩:=row_next h
 obtain ⟨q,hq⟩:∃ q,q=p+(1+nestC r c):=⟨_,rfl⟩
 rw[←hq] at n1 n2 n3 hpass hx
 have hlt:q<s.size:=by
  match r,n1 with
  | [],n1=>exact n1.cons.1
  | (true,_) :: _,n1=>exact n1.cons.1
  | (false,_) :: _,n1=>exact n1.cons.1
 have hov:overB s q=false:=by
  match r,n1 with
  | [],n1=>exact over_in hlt (.inr ⟨m3_not (.inr (isB_no (by rw[n1.cons.2.2.cons.2.1];decide))),m3_not (.inr (isB_no (by rw[n1.cons.2.2.cons.2.1];decide)))⟩)
  | (true,_) :: _,n1=>exact (dash_n (.inl rfl) n1).2
  | (false,_) :: _,n1=>exact over_in hlt (.inr ⟨m3_not (.inr (isB_no (by rw[n1.cons.2.2.cons.2.1];decide))),m3_not (.inr (isB_no (by rw[n1.cons.2.2.cons.2.1];decide)))⟩)
 have hn:noneB s k.n k.bare k.flat p q=false:=by
  unfold noneB
  rw[hov,n3,hkb,n2,Bool.false_or,Bool.false_or,Bool.not_false,Bool.true_and]
  rcases hk with hk|⟨h1,h2,m,r2,rfl⟩
  ·rw[decide_eq_false (by omega),Bool.false_and]
  ·rw[h2,(dash_n (.inl rfl) n1).1,decide_eq_true h1.symm,decide_eq_true (Int.le_of_eq h1.symm)]
   rfl
 match r,hx,n1,hs,hq,hn,hpass,h with
 | [],_,n1,hs,hq,hn,hpass,_=>
  have n1:Pre s q [101,110,100,10]:=n1
  have hs:s.size=q+4:=by rw[hs,hq];simp[nestB,spc_len,nestC];omega
  obtain ⟨n0,hn0,hkn⟩:=hkn
  obtain ⟨hZ,hB,hP⟩:=plain_ofK (fin:=true) n1 (by omega) (fun _=>by rw[hs];rfl) (ng_end n0 (List.mem_range.2 hn0))
  have e3:Pre s (q+3) [10]:=(show Pre s q ([101,110,100]++[10]) from n1).app.2
  have h100:byt s (q+2)=100:=n1.cons.2.2.cons.2.2.cons.2.1
  obtain ⟨c1,c2,_⟩:=e3.cons
  have hlf:=row_lfT c1 c2
  obtain ⟨L2,hL2,hpass2⟩:=pass_of (fin:=true) (by omega) e3 (fun _=>by rw[hs];rfl) (by rw[show q+3-1=q+2 by omega,h100];decide) (by rw[show q+3-1=q+2 by omega,h100];decide) ti_end (by omega)
  obtain rfl:L2=[]:=List.map_eq_nil_iff.1 hL2
  have hkZ:PlaiZ s (q:Int) k.n false [101,110,100] ((q+3:Nat):Int) true 0:=by rw[hkn];exact hZ
  have:=nod_plain (blk:=blk) (k:=k) (m:=3) hpass hn hB hP hkZ hlf.1 hlf.2 (.inl rfl) hpass2
  rw[show q+3+1=s.size by omega] at this
  exact ⟨_,(leaf_alike 1 q 0 _).lead [],this⟩
 | (true,m) :: r,hx,n1,_,_,hn,hpass,_=>
  obtain ⟨x,hx1,hx2⟩:=hx (by simp)
  exact ⟨_,hx1.lead _,nod_block hpass hn (open_mark (.inl rfl) (dash_n (.inl rfl) n1).1) (.inr (.inl n3)) hx2⟩
 | (false,m) :: r,hx,n1,_,_,hn,hpass,_=>
  obtain ⟨x,hx1,hx2⟩:=hx (by simp)
  obtain ⟨t,k1,k2,k3,k4,k5,k6,_⟩:=nkey (.inl rfl) (.inl rfl) (Nat.le_of_lt hlt) n1
  exact ⟨_,hx1.lead _,nod_block hpass hn (open_key k1 k2 k4 k5 k6) (.inr (.inl n3)) hx2⟩
end
theorem nest_blk {s:ByteArray}:∀ (r:List (Bool × Nat)) (g deep c q:Nat),r≠[]→r.length≤g→deep+r.length≤40→okN r→c+sumN r+1<30→q≤s.size→Pre s q (nestB r c)→s.size=q+(nestB r c).length→colF s q=c→∃ x,AlikeT x (nestT r)∧blkR s g deep q (.ok (x,[],s.size))
 | [],_,_,_,_,h,_,_,_,_,_,_,_,_=>absurd rfl h
 | _ :: _,0,_,_,_,_,h,_,_,_,_,_,_,_=>by simp at h
 | (b,m) :: r,g+1,deep,c,q,_,hg,hd,ho,hc,hq,h,hs,hcol=>by
  rw[List.length_cons] at hg hd
  obtain ⟨ho1,ho2⟩:=ho
  have hc:c+(m+sumN r)+1<30:=hc
  have hcr:c∈List.range 30:=List.mem_range.2 (by omega)
  have hC:nestC r (c+m)<30:=by
   cases r with
   | nil=>show c+m+1<30;omega
   | cons _ _=>show c+m<30;omega
  have hkC:∀ f:Bool,(f=true∨1≤m)→((c:Int)<(nestC r (c+m):Int)∨((c:Int)=(nestC r (c+m):Int)∧f=true∧∃ m2 r2,r=(true,m2) :: r2)):=fun f hf=>by
   rcases ho1 with h1|rfl|⟨_,m2,r2,rfl⟩
   ·left
    cases r with
    | nil=>show (c:Int)<((c+m+1:Nat):Int);omega
    | cons _ _=>show (c:Int)<((c+m:Nat):Int);omega
   ·left;show (c:Int)<((c+m+1:Nat):Int);omega
   ·by_cases hm:1≤m
    ·left;show (c:Int)<((c+m:Nat):Int);omega
    ·right
     refine ⟨by show (c:Int)=((c+m:Nat):Int);omega,hf.resolve_right hm,m2,r2,rfl⟩
  obtain ⟨kA,mA,hA⟩:=Abv.ex s q
  have hblk:∀ (p2:Nat) (dp:Nat),dp=deep+1→p2+(1+nestC r (c+m))≤s.size→Pre s (p2+(1+nestC r (c+m))) (nestB r (c+m))→s.size=p2+(1+nestC r (c+m))+(nestB r (c+m)).length→colF s (p2+(1+nestC r (c+m)))=nestC r (c+m)→r≠[]→∃ x,AlikeT x (nestT r)∧blkR s g dp (p2+(1+nestC r (c+m))) (.ok (x,[],s.size)):=fun p2 dp hdp e1 e2 e3 e4 hne=>by
   have hCr:nestC r (c+m)=c+m:=by
    cases r with
    | nil=>exact absurd rfl hne
    | cons _ _=>rfl
   rw[hCr] at e1 e2 e3 e4 ⊢
   exact nest_blk r g dp (c+m) _ hne (by omega) (by omega) ho2 (by omega) e1 e2 e3 e4
  cases b with
  | true=>
   have h:Pre s q (45 :: 32 :: ([120]++(10 :: (spc c++([45,10]++(spc (nestC r (c+m))++nestB r (c+m))))))):=h
   have hs:s.size=q+1+1+1+(1+c)+1+(1+nestC r (c+m))+(nestB r (c+m)).length:=by rw[hs];simp[nestB,spc_len];omega
   obtain ⟨m1,m2⟩:=dash_n (.inl rfl) h
   obtain ⟨h1,h2,h3⟩:=h.cons
   have h2:byt s q=45:=h2
   have hN:=ng_word (blk:=blkR s g) (k:=⟨c,true,false,false,deep+1,false⟩) rfl hcr (w:=[120]) (by simp[ngW]) (u:=[45,10]) (by simp[ngU]) (by omega) (by rw[Nat.add_sub_cancel,h2];decide) (by rw[Nat.add_sub_cancel,h2];decide) (by omega) h3
   obtain ⟨n1,n2,_⟩:=row_next (c:=c) (e:=q+1+1+1) h3.cons.2.2.cons.2.2
   obtain ⟨d1,d2⟩:=dash_n (.inr rfl) n1
   obtain ⟨p2,hp2⟩:∃ p2,p2=q+1+1+1+(1+c):=⟨_,rfl⟩
   rw[show q+1+1+1+(1+c)=p2 from hp2.symm] at hN n1 n2 d1 d2 hs
   obtain ⟨g1,g2,g3⟩:=n1.cons
   have g2:byt s p2=45:=g2
   obtain ⟨r1,r2,_⟩:=row_next g3
   obtain ⟨y,hy,hY⟩:=nest_node (r:=r) (c:=c+m) (k:=⟨c,true,false,false,deep+1,false⟩) (blk:=blkR s g) (p:=p2+1) hC rfl ⟨c,by omega,rfl⟩ (by
    rcases ho1 with h1|rfl|⟨hf,_⟩
    ·exact hkC false (.inr h1)
    ·left;show (c:Int)<((c+m+1:Nat):Int);omega
    ·cases hf) (by omega) (by rw[Nat.add_sub_cancel,g2];exact .inl rfl) (by omega) g3 (by simp only[List.length_cons,List.length_append,spc_len];omega) (fun hne=>hblk (p2+1) (deep+1) rfl (by omega) r1 (by omega) r2 hne)
   obtain ⟨kB,mB,hB⟩:=Abv.ex s p2
   have hS:SeqT s (blkR s g) (colF s q) (deep+1) (.ok ([]++[(leafN 1 (q+1+1) [120]).withTop ([]++[]) mA]++[y.withTop ([]++y.h.lead) mB],[],s.size)) q [] []:=by
    rw[hcol]
    exact .go hN hA d2 n2 d1 (.over hY hB (.inl (over_end s)) rfl)
   refine ⟨_,?_,blk_seq (by omega) m1 hS⟩
   unfold nestT AlikeT
   refine ⟨⟨rfl,rfl,rfl,rfl,rfl⟩,?_⟩
   exact AlikeL.app (a:=[_]) (b:=[_]) (by unfold AlikeL;exact ⟨_,[],rfl,(leaf_alike 1 _ 0 _).top _ _,by unfold AlikeL;rfl⟩) (by unfold AlikeL;exact ⟨_,[],rfl,hy.top _ _,by unfold AlikeL;rfl⟩)
  | false=>
   have h:Pre s q (120 :: 58 :: 32 :: ([121]++(10 :: (spc c++([122,58]++(10 :: (spc (nestC r (c+m))++nestB r (c+m)))))))):=h
   have hs:s.size=q+1+1+1+1+(1+c)+1+1+(1+nestC r (c+m))+(nestB r (c+m)).length:=by rw[hs];simp[nestB,spc_len];omega
   obtain ⟨t,k1,k2,k3,k4,k5,k6,k7⟩:=nkey (.inl rfl) (.inl rfl) hq h
   obtain ⟨h1,h2,h3⟩:=h.cons
   obtain ⟨i1,i2,i3⟩:=h3.cons
   have i2:byt s (q+1)=58:=i2
   have hN:=ng_word (blk:=blkR s g) (k:=⟨c,false,false,true,deep+1,false⟩) (p:=q+1+1) rfl hcr (w:=[121]) (by simp[ngW]) (u:=[122,58]) (by simp[ngU]) (by omega) (by rw[Nat.add_sub_cancel,i2];decide) (by rw[Nat.add_sub_cancel,i2];decide) (by omega) i3
   obtain ⟨n1,n2,_⟩:=row_next (c:=c) (e:=q+1+1+1+1) i3.cons.2.2.cons.2.2
   have hP1:=pair_plain (deep:=deep+1) (c:=c) k1 k2 k3 k4 k5 k6 hN
   obtain ⟨p2,hp2⟩:∃ p2,p2=q+1+1+1+1+(1+c):=⟨_,rfl⟩
   rw[show q+1+1+1+1+(1+c)=p2 from hp2.symm] at hP1 n1 n2 hs
   obtain ⟨t2,e1,e2,e3,e4,e5,e6,e7⟩:=nkey (y:=122) (v:=10) (.inr rfl) (.inr rfl) (by omega) n1
   have hK:=key_plain e1 e2 e4 e5
   rw[e6,if_pos rfl] at hK
   obtain ⟨g1,g2,g3⟩:=n1.cons
   obtain ⟨f1,f2,f3⟩:=g3.cons
   have f2:byt s (p2+1)=58:=f2
   obtain ⟨r1,r2,_⟩:=row_next f3
   obtain ⟨y,hy,hY⟩:=nest_node (r:=r) (c:=c+m) (k:=⟨c,false,false,true,deep+1,false⟩) (blk:=blkR s g) (p:=p2+1+1) hC rfl ⟨c,by omega,rfl⟩ (hkC true (.inl rfl)) (by omega) (by rw[Nat.add_sub_cancel,f2];exact .inr rfl) (by omega) f3 (by simp only[List.length_cons,List.length_append,spc_len];omega) (fun hne=>hblk (p2+1+1) (deep+1) rfl (by omega) r1 (by omega) r2 hne)
   have hP2:=pair_plain (deep:=deep+1) (c:=c) e1 e2 e3 e4 e5 e6 hY
   obtain ⟨kB,mB,hB⟩:=Abv.ex s p2
   have hM:MapT s (blkR s g) (colF s q) (deep+1) (.ok ([]++[(leafN 1 q [120]).withTop ([]++[]) mA,leafN 1 (q+1+1+1) [121]]++[(leafN 1 p2 [122]).withTop ([]++[]) mB,y],[],s.size)) q [] []:=by
    rw[hcol]
    exact .go hP1 hA e7 hK (beg_not e1).2.2.1 n2 (.inl (by simp)) (.over hP2 hB (.inl (over_end s)) rfl)
   refine ⟨_,?_,blk_map (by omega) (by rw[(beg_not k1).2.2.2.2 45 (.inl rfl)]) hM⟩
   unfold nestT AlikeT
   refine ⟨⟨rfl,rfl,rfl,rfl,rfl⟩,?_⟩
   unfold AlikeL
   refine ⟨_,_,rfl,(leaf_alike 1 _ 0 _).top _ _,?_⟩
   unfold AlikeL
   refine ⟨_,_,rfl,leaf_alike 1 _ 0 _,?_⟩
   unfold AlikeL
   refine ⟨_,_,rfl,(leaf_alike 1 _ 0 _).top _ _,?_⟩
   unfold AlikeL
   refine ⟨_,[],rfl,hy,?_⟩
   unfold AlikeL
   rfl
theorem nest_text {s:ByteArray} {r:List (Bool × Nat)} (hr:r≠[]) (hl:r.length≤40) (ho:okN r) (hc:sumN r+1<30) (h:s.data.toList=nestB r 0):∃ x,AlikeT x (nestT r)∧TreeZ s 0 false (some x) [] (s.size:Int) 0:=by
 have hP:Pre s 0 (nestB r 0):=by unfold Pre;rw[List.drop_zero,h];exact List.prefix_refl _
 have hs:s.size=0+(nestB r 0).length:=by rw[Lib.size_eq,h,Nat.zero_add]
 obtain ⟨x,hx,hB⟩:=nest_blk r r.length 0 0 0 hr (Nat.le_refl _) (by omega) ho (by omega) (Nat.zero_le _) hP hs rfl
 obtain ⟨u,l,hul,hu,_⟩:=nest_head r 0
 have hw:wS false (2*u.length+2) u true true false [] false=some ([],false,0):=by revert hu;unfold ngV;simp;rintro (rfl|rfl|rfl) <;> decide +kernel
 have t1:passR s 0 (.ok ([],false,0)):=by
  obtain ⟨L,hL,hp⟩:=pass_row (fin:=false) (.inl rfl) (show Pre s 0 u by rw[hul] at hP;exact hP.app.1) (fun e=>by cases e) hw (Nat.zero_le _)
  obtain rfl:L=[]:=List.map_eq_nil_iff.1 hL
  exact hp
 have t2:OpenR s 0 true∧overB s 0=false:=by
  match r,hP,hr with
  | [],_,hr=>exact absurd rfl hr
  | (true,m) :: r,hP,_=>exact ⟨open_mark (.inl rfl) (dash_n (.inl rfl) hP).1,(dash_n (.inl rfl) hP).2⟩
  | (false,m) :: r,hP,_=>
   obtain ⟨t,k1,k2,k3,k4,k5,k6,k7⟩:=nkey (.inl rfl) (.inl rfl) (Nat.zero_le _) hP
   exact ⟨open_key k1 k2 k4 k5 k6,k7⟩
 exact ⟨_,hx.lead _,tree_of t1 t2.2 t2.1 hB (over_end s)⟩
end Go.Proofs.YtafhgbokdfhapaaGreatDoor

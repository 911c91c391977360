/- Parts of the proof of FlowRows, put together from smaller texts (blanks that Lean does not want are struck). Conditions: those that each theorem writes out. -/
import Derived.BigQuiet
import Derived.Deep.DeepCutAuto
import Derived.Deep.DrawnRows
import Derived.Deep.LoopGhost
import Derived.Deep.RegionHeld3
import Derived.Laws.Cover4
import Derived.Lib.MapLaws
import Derived.Shelf.LaysC
import Derived.Shelf.LaysM
import Derived.Shelf.Small.Strs
import Derived.Shelf.Small.Utf8
import Derived.Shelf.Strconv.Clone
import Derived.Shelf.Strconv.SyntaxError
import Derived.Shelf.Strconv.ToError
import Derived.Shelf.Strings.AsciiSet
import Derived.Shelf.Strings.Builder1
import Derived.Shelf.Strings.BuilderF
import Derived.Shelf.Strings.BuilderK
import Derived.Shelf.Strings.BuilderRune
import Derived.Shelf.Strings.LastIndex
import Derived.Shelf.Strings.Prefix
import Derived.Shelf.Strings.Runes
import Derived.Shelf.Strings.Search1
import Derived.Shelf.Strings.Search2
import Derived.Shelf.Strings.Search3
import Derived.Shelf.Strings.Shaped
import Derived.Shelf.Strings.Trim
import Derived.Shelf.Unicode.DecodeSlow
import Derived.Test.YtncngeamdechmaaGreatDoorEFlowRows0
import Derived.Test.YtncngeamdechmaaGreatDoorEFlowRows1
import Derived.Test.YtncngeamdechmaaGreatDoorEFlowRows2
import Derived.Test.YtncngeamdechmaaGreatDoorProg
import Derived.Test.YtncngeamdechmaaGreatDoorZ00
import Derived.Test.YtncngeamdechmaaGreatDoorZ01
import Derived.Test.YtncngeamdechmaaGreatDoorZ02
import Derived.Test.YtncngeamdechmaaGreatDoorZ05
import Derived.Test.YtncngeamdechmaaGreatDoorZ08
import Derived.Test.YtncngeamdechmaaGreatDoorZ11
import Derived.Test.YtncngeamdechmaaGreatDoorZ15
namespace Go.Proofs.YtncngeamdechmaaGreatDoor
open Go.RowKit
attribute [local go_sem ↓] Go.wp_at_zero Go.wp_at_succ
theorem sepT (z:Nat) (hz:z<5):(#[Value.string ⟨#[32]⟩,.string ⟨#[10,32,32]⟩,.string ⟨#[32,35,32,99,10,32]⟩,.string ⟨#[10,10,9,32,10,32,32,32]⟩,.string ⟨#[10,35,100,10,32,32]⟩]:Array Value)[z]?=some (.string ⟨(sepL.getD z []).toArray⟩):=by
 match z,hz with
 | 0,_|1,_|2,_|3,_|4,_=>rfl
def sepK (k:Int):List UInt8:=sepL.getD (lowZ k 5).toNat []
theorem sepK_mem (k:Int):sepK k∈sepL:=by
 unfold sepK
 have h:=lowZ_range k 5 (by omega)
 have hl:(lowZ k 5).toNat<sepL.length:=by show _<5;omega
 simp only[List.getD]
 rw[List.getElem?_eq_getElem hl,Option.getD_some]
 exact List.getElem_mem _
set_option maxHeartbeats 400000 in
theorem lawRow_is (k:Int) (R:ByteArray) (w:World) (hR:(⟨(sepK k).toArray⟩:ByteArray)=R):Calls Tryz.prog 9 #[.int .i64 k] w fun e w'=>e=.returned (.string R)∧Below w.heap.size w w':=by
 have hyr:=lowZ_range k 5 (by omega)
 obtain ⟨y,hy⟩:∃ y:Nat,lowZ k 5=(y:Int):=⟨(lowZ k 5).toNat,by omega⟩
 unfold sepK at hR
 rw[hy,Int.toNat_natCast] at hR
 rw[hy] at hyr
 have hX:=sepT y (by omega)
 rw[hR] at hX
 have HY:=Lib.hid hy
 have htab:(w.alloc (.cells #[Value.string ⟨#[32]⟩,.string ⟨#[10,32,32]⟩,.string ⟨#[32,35,32,99,10,32]⟩,.string ⟨#[10,10,9,32,10,32,32,32]⟩,.string ⟨#[10,35,100,10,32,32]⟩] 9)).cell? ⟨w.heap.size,y,none⟩=some (.string R):=by rw[World.cell?_alloc_mark];exact hX
 have hbb:=(Below.refl w.heap.size w).alloc (Nat.le_refl _) (.cells #[Value.string ⟨#[32]⟩,.string ⟨#[10,32,32]⟩,.string ⟨#[32,35,32,99,10,32]⟩,.string ⟨#[10,10,9,32,10,32,32,32]⟩,.string ⟨#[10,35,100,10,32,32]⟩] 9)
 clear hy hR hX
 go_enter Tryz.func9,Tryz.ntmps9
 go_wp2_with fail
 refine (Low_is (y:Int) k 5 _ (by omega) (by omega) HY.out).mono ?_
 rintro e w1 ⟨rfl,rfl⟩
 go_wp2
 go_ret
 exact ⟨rfl,hbb⟩
theorem word_wrap (z:Int):word (wrap64 z)=word z:=by
 have:lowZ (wrap64 z) 10=lowZ z 10:=by unfold lowZ wrap64;omega
 unfold word
 rw[this]
theorem appendMany {ops:Array Oper} {rest:List Oper} {o:Oper} {a:Act} {Q:Exit→Act→World→Prop} (w0:World) (ys:List (List UInt8)) (hgd:o.guard=none) (s x:Operand)
  (ho:o.op=.call { callee:=.builtin .append,args:=#[s,x],argTypes:=#[24,24] })
  (B:Nat) (wb:World) (v:Value) (xs:List (List UInt8)) (cs:Array Value) (m:Nat) (hcs:cs=(ys.map fun l=>Value.string ⟨l.toArray⟩).toArray) (hm:m=ys.length) (hv:OutT B w0 v xs) (hb:Below B wb w0) (hs:a.eval s=v) (hx:a.eval x=.slice (some ⟨w0.heap.size,0,none⟩) m m) (hn:xs.length+ys.length≤1000000000) (hB:B≤wb.heap.size)
  (h:∀ v' w',OutT B w' v' (xs++ys)→Below B wb w'→wpList Tryz.prog ops Q rest (a.put o.dst v') w'):wpList Tryz.prog ops Q (o :: rest) a (w0.alloc (.cells cs 9)):=by
 subst hcs hm
 have hs0:=hb.size
 have hw0:(w0.alloc (.cells (ys.map fun l=>Value.string ⟨l.toArray⟩).toArray 9)).heap.size=w0.heap.size+1:=by simp
 have hB0:B≤w0.heap.size:=Nat.le_trans hB hs0
 refine appendT hgd s x ho B (w0.heap.size+1) v _ xs ys hs hx (hv.below ((Below.refl _ _).alloc (Nat.le_refl _) _)) (texts_new w0 ys (by unfold maxLen;omega)) (by omega) (by rw[hw0];omega) ?_
 intro v' w' h1 h2
 exact h v' w' h1 ((hb.alloc hB0 _).grown h2 (by rw[hw0];omega) (fun k hk=>(hv.lt k hk).1))
set_option maxRecDepth 100000 in
set_option maxHeartbeats 6400000 in
theorem lawTokens_is (ks:List Int) (v:Value) (w:World) (h1:IsInts .i64 w.heap.size w v ks) (hks:ks.length≤1000):Calls Tryz.prog 8 #[v] w fun e w'=>∃ r,e=.returned r∧OutT w.heap.size w' r ([91] :: tokT ks 1)∧Below w.heap.size w w':=by
 obtain ⟨ao,cap,rfl,c3,d3⟩:=h1.slice
 unfold maxLen at d3
 obtain ⟨L,hL⟩:∃ L,L=ks.length:=⟨_,rfl⟩
 have HL:=Lib.hid hL
 rw[←hL] at h1 c3 hks ⊢
 clear hL
 obtain ⟨TT,hTT⟩:∃ TT,[91] :: tokT ks 1=TT:=⟨_,rfl⟩
 have HT:Hid ([[91]]++tokT (ks.drop 0) 1=TT):=hTT
 rw[hTT]
 clear hTT
 have o0:=OutT_one w.heap.size w [91] (Nat.le_refl _)
 have b0:=(Below.refl w.heap.size w).alloc (Nat.le_refl _) (.cells #[.string ⟨#[91]⟩] 9)
 go_enter Tryz.func8,Tryz.ntmps8
 go_wp2
 go_loopw [3,4,5] (fun v3 v4 v5 wr=>∃ (A:List (List UInt8)) (k d:Nat),v4=.int .i64 (d:Int)∧v5=.int .i64 (k:Int)∧k≤L∧1≤d∧d≤k+1∧A.length≤11*k+1∧OutT w.heap.size wr v3 A∧Below w.heap.size w wr∧Hid (A++tokT (ks.drop k) d=TT)) (fun _ _ v5 _=>L-(intOf v5).toNat)
 case atStart=>exact ⟨[[91]],0,1,rfl,rfl,Nat.zero_le _,Nat.le_refl _,Nat.le_refl _,Nat.le_refl _,o0,b0,HT⟩
 case round=>
  obtain ⟨A,k,d,rfl,rfl,hk,hd1,hd2,hAl,ho,hb,HA⟩:=hrel
  clear o0 b0 HT
  by_cases hk2:k<L
  ·obtain ⟨bb,oo,rfl,hlt,hcc⟩:=IsInts.at h1 HL.out.symm (by omega)
   have g1:=hcc k hk2
   rw[←hb.cell (p:=⟨bb,oo+k,none⟩) hlt] at g1
   have hdr:ks.drop k=ks.getD k 0 :: ks.drop (k+1):=by
    rw[List.drop_eq_getElem_cons (by rw[←HL.out];exact hk2)]
    simp[List.getD,List.getElem?_eq_getElem (show k<ks.length by rw[←HL.out];exact hk2)]
   obtain ⟨x,hx⟩:∃ x,x=ks.getD k 0:=⟨_,rfl⟩
   rw[←hx] at g1 hdr
   have hA1:=HA.out
   rw[hdr] at hA1
   have hyr:=lowZ_range x 6 (by omega)
   obtain ⟨y,hy⟩:∃ y:Nat,lowZ x 6=(y:Int):=⟨(lowZ x 6).toNat,by omega⟩
   have hway:way x=y:=by unfold way;rw[hy];exact Int.toNat_natCast y
   have CL:=fun W=>Low_is (y:Int) x 6 W (by omega) (by omega) hy
   rw[hy] at hyr
   have hyn:y<6:=by omega
   clear hy hcc hx hyr hdr HA
   match y,hyn with
   | 0,_=>
    have hA1:Hid (A++([91] :: tokT (ks.drop (k+1)) (d+1))=TT):=by rw[tokT_0 hway] at hA1;exact hA1
    go_wp2_with fail
    refine (CL _).mono ?_
    rintro e w1 ⟨rfl,rfl⟩
    go_wp2_with (at_builtin;refine appendMany wr [[91]] rfl _ _ rfl w.heap.size w _ A _ 1 rfl rfl ho hb rfl rfl (by show _+1≤_;omega) (Nat.le_refl _) ?_;intro v2 w2 o2 b2)
    go_roundw
    case rel=>exact ⟨A++[[91]],k+1,d+1,by go_num,by go_num,by omega,by omega,by omega,by rw[List.length_append];show _+1≤_;omega,o2,b2,(List.append_assoc _ _ _).trans hA1.out⟩
    case measure=>simp[intOf];omega
   | 1,_=>
    by_cases hd3:1<d
    ·have hA1:Hid (A++([93] :: [44] :: tokT (ks.drop (k+1)) (d-1))=TT):=by rw[tokT_1 hway hd3] at hA1;exact hA1
     go_wp2_with fail
     refine (CL _).mono ?_
     rintro e w1 ⟨rfl,rfl⟩
     go_wp2_with (at_builtin;refine appendMany wr [[93],[44]] rfl _ _ rfl w.heap.size w _ A _ 2 rfl rfl ho hb rfl rfl (by show _+2≤_;omega) (Nat.le_refl _) ?_;intro v2 w2 o2 b2)
     go_roundw
     case rel=>exact ⟨A++[[93],[44]],k+1,d-1,by go_num,by go_num,by omega,by omega,by omega,by rw[List.length_append];show _+2≤_;omega,o2,b2,(List.append_assoc _ _ _).trans hA1.out⟩
     case measure=>simp[intOf];omega
    ·have hA1:Hid (A++tokT (ks.drop (k+1)) d=TT):=by rw[tokT_1n hway hd3] at hA1;exact hA1
     go_wp2_with fail
     refine (CL _).mono ?_
     rintro e w1 ⟨rfl,rfl⟩
     go_wp2
     go_roundw
     case rel=>exact ⟨A,k+1,d,rfl,by go_num,by omega,by omega,by omega,by omega,ho,hb,hA1⟩
     case measure=>simp[intOf];omega
   | 2,_=>
    have hA1:Hid (A++([[123],[107],[58,32],[118],[44],[39,119,39],[58],[91],[93],[125],[44]]++tokT (ks.drop (k+1)) d)=TT):=by rw[tokT_2 hway] at hA1;exact hA1
    go_wp2_with fail
    refine (CL _).mono ?_
    rintro e w1 ⟨rfl,rfl⟩
    go_wp2_with (at_builtin;refine appendMany wr [[123],[107],[58,32],[118],[44],[39,119,39],[58],[91],[93],[125],[44]] rfl _ _ rfl w.heap.size w _ A _ 11 rfl rfl ho hb rfl rfl (by show _+11≤_;omega) (Nat.le_refl _) ?_;intro v2 w2 o2 b2)
    go_roundw
    case rel=>exact ⟨A++[[123],[107],[58,32],[118],[44],[39,119,39],[58],[91],[93],[125],[44]],k+1,d,rfl,by go_num,by omega,by omega,by omega,by rw[List.length_append];show _+11≤_;omega,o2,b2,(List.append_assoc _ _ _).trans hA1.out⟩
    case measure=>simp[intOf];omega
   | 3,_=>
    have hA1:Hid (A++([[63],[112],[58,32],[34,113,34],[44]]++tokT (ks.drop (k+1)) d)=TT):=by rw[tokT_3 hway] at hA1;exact hA1
    go_wp2_with fail
    refine (CL _).mono ?_
    rintro e w1 ⟨rfl,rfl⟩
    go_wp2_with (at_builtin;refine appendMany wr [[63],[112],[58,32],[34,113,34],[44]] rfl _ _ rfl w.heap.size w _ A _ 5 rfl rfl ho hb rfl rfl (by show _+5≤_;omega) (Nat.le_refl _) ?_;intro v2 w2 o2 b2)
    go_roundw
    case rel=>exact ⟨A++[[63],[112],[58,32],[34,113,34],[44]],k+1,d,rfl,by go_num,by omega,by omega,by omega,by rw[List.length_append];show _+5≤_;omega,o2,b2,(List.append_assoc _ _ _).trans hA1.out⟩
    case measure=>simp[intOf];omega
   | 4,_=>
    obtain ⟨wd,hwd⟩:∃ wd,word (x.tdiv 6)=wd:=⟨_,rfl⟩
    obtain ⟨WD,hWD⟩:∃ W:ByteArray,(⟨wd.toArray⟩:ByteArray)=W:=⟨_,rfl⟩
    have CW:=fun W=>WordOf_is wd (wrap64 (x.tdiv 6)) W ((word_wrap _).trans hwd)
    rw[hWD] at CW
    rw[tokT_4 (by omega),hwd] at hA1
    have hA1:Hid (A++(wd :: [44] :: tokT (ks.drop (k+1)) d)=TT):=hA1
    go_wp2_with fail
    refine (CL _).mono ?_
    rintro e w1 ⟨rfl,rfl⟩
    go_wp2_with fail
    refine (CW _).mono ?_
    rintro e w5 ⟨rfl,b5⟩
    have hb5:=hb.trans (b5.mono hb.size)
    have ho5:=ho.below b5
    go_wp2_with (at_builtin;refine appendMany w5 [wd,[44]] rfl _ _ rfl w.heap.size w _ A _ 2 (by rw[←hWD];rfl) rfl ho5 hb5 rfl rfl (by show _+2≤_;omega) (Nat.le_refl _) ?_;intro v2 w2 o2 b2)
    go_roundw
    case rel=>exact ⟨A++[wd,[44]],k+1,d,rfl,by go_num,by omega,by omega,by omega,by rw[List.length_append];show _+2≤_;omega,o2,b2,(List.append_assoc _ _ _).trans hA1.out⟩
    case measure=>simp[intOf];omega
   | 5,_=>
    obtain ⟨wd,hwd⟩:∃ wd,word (x.tdiv 6)=wd:=⟨_,rfl⟩
    obtain ⟨WD,hWD⟩:∃ W:ByteArray,(⟨wd.toArray⟩:ByteArray)=W:=⟨_,rfl⟩
    have CW:=fun W=>WordOf_is wd (wrap64 (x.tdiv 6)) W ((word_wrap _).trans hwd)
    rw[hWD] at CW
    rw[tokT_4 (by omega),hwd] at hA1
    have hA1:Hid (A++(wd :: [44] :: tokT (ks.drop (k+1)) d)=TT):=hA1
    go_wp2_with fail
    refine (CL _).mono ?_
    rintro e w1 ⟨rfl,rfl⟩
    go_wp2_with fail
    refine (CW _).mono ?_
    rintro e w5 ⟨rfl,b5⟩
    have hb5:=hb.trans (b5.mono hb.size)
    have ho5:=ho.below b5
    go_wp2_with (at_builtin;refine appendMany w5 [wd,[44]] rfl _ _ rfl w.heap.size w _ A _ 2 (by rw[←hWD];rfl) rfl ho5 hb5 rfl rfl (by show _+2≤_;omega) (Nat.le_refl _) ?_;intro v2 w2 o2 b2)
    go_roundw
    case rel=>exact ⟨A++[wd,[44]],k+1,d,rfl,by go_num,by omega,by omega,by omega,by rw[List.length_append];show _+2≤_;omega,o2,b2,(List.append_assoc _ _ _).trans hA1.out⟩
    case measure=>simp[intOf];omega
  ·obtain rfl:L=k:=by omega
   have hA1:Hid (A++List.replicate d [93]=TT):=by
    have:=HA.out
    rw[List.drop_eq_nil_of_le (by rw[←HL.out];omega)] at this
    unfold tokT at this
    exact this
   have HB:=Lib.hid hb
   clear HA h1
   go_wp2
   go_loopw [3,6] (fun v3 v6 wx=>∃ (A2:List (List UInt8)) (i:Nat),v6=.int .i64 (i:Int)∧i≤d∧A2.length≤11*L+1+i∧OutT w.heap.size wx v3 A2∧Below w.heap.size w wx∧Hid (A2++List.replicate (d-i) [93]=TT)) (fun _ v6 _=>d-(intOf v6).toNat)
   case atStart=>exact ⟨A,0,rfl,Nat.zero_le _,by omega,ho,hb,hA1⟩
   case round=>
    clear ho hb HB hA1
    obtain ⟨A2,i,rfl,hi,hAl2,ho,hb,HA2⟩:=hrel
    by_cases hi2:i<d
    ·have hA3:Hid (A2++([93] :: List.replicate (d-(i+1)) [93])=TT):=by
      have:=HA2.out
      rwa [show d-i=d-(i+1)+1 by omega,List.replicate_succ] at this
     clear HA2
     go_wp2_with (at_builtin;refine appendMany wr [[93]] rfl _ _ rfl w.heap.size w _ A2 _ 1 rfl rfl ho hb rfl rfl (by show _+1≤_;omega) (Nat.le_refl _) ?_;intro v2 w2 o2 b2)
     go_roundw
     case rel=>exact ⟨A2++[[93]],i+1,by go_num,by omega,by rw[List.length_append];show _+1≤_;omega,o2,b2,(List.append_assoc _ _ _).trans hA3.out⟩
     case measure=>simp[intOf];omega
    ·have hA3:A2=TT:=by
      have:=HA2.out
      rwa [show d-i=0 by omega,List.replicate_zero,List.append_nil] at this
     clear HA2
     subst hA3
     go_wp2
     go_ret
     exact ⟨_,rfl,ho,hb⟩
set_option maxRecDepth 100000 in
set_option maxHeartbeats 1600000 in
theorem awake16_true {Ev:World→Prop} (K:FlowC Ev) (w:World) (hE:Ev w):Calls Tryz.prog 7 #[] w fun e w'=>e=.returned (.bool true)∧Below w.heap.size w w':=by
 obtain ⟨T,a,b,hF1,hTk,hTa,hTb⟩:∃ T a b,FlowZ awakeA 0 (-1) 0 (some T) 9 0∧T.kids=[a,b]∧a.h.text=[97]∧b.h.kind=4:=by
  obtain ⟨m,m2,h⟩:=awakeF1
  exact ⟨_,_,_,h,rfl,rfl,rfl⟩
 go_enter Tryz.func7,Tryz.ntmps7
 go_wp2_with fail
 refine (K.read _ _ _ awakeA _ _ _ _ (by decide) hE hF1).mono ?_
 rintro e w2 ⟨cx,rfl,-,nx,b2⟩
 have hEs:=K.keep _ _ hE b2
 obtain ⟨kv,lv,fv,rfl,⟨la,lc,rfl,-,-,-⟩,⟨fa,fc,rfl,-,-,-⟩,⟨ka,kc,rfl,n1,n2,n3⟩⟩:=(nx _ rfl).open
 unfold maxLen at n2
 rw[hTk] at n1 n3 ⊢
 obtain ⟨kb,ko,rfl,hkb,hk⟩:=n3 (by show 0<2;decide)
 have n1:2≤kc:=n1
 rw[show ([a,b]:List NT).length=2 from rfl]
 obtain ⟨p0,p1,p2,p3,p4,p5,p6,p7,p8,p9,p10,p11,hN1,f0,f1,f2,f3,f4,f5,f6,f7,f8,f9,f10,f11⟩:=kid_cells hk (j:=0) (by show 0<2;decide)
 obtain ⟨q0,q1,q2,q3,q4,q5,q6,q7,q8,q9,q10,q11,hN2,g0,g1,g2,g3,g4,g5,g6,g7,g8,g9,g10,g11⟩:=kid_cells hk (j:=1) (by show 1<2;decide)
 have e6:p6=.string ⟨#[97]⟩:=by
  obtain ⟨a',b',c',e,_⟩:=hN1.open
  unfold headC at e
  simp only[List.cons.injEq] at e
  rw[e.2.2.2.2.2.2.1]
  show Value.string ⟨a.h.text.toArray⟩=_
  rw[hTa]
 have e0:q0=.int .i64 4:=by
  obtain ⟨a',b',c',e,_⟩:=hN2.open
  unfold headC at e
  simp only[List.cons.injEq] at e
  rw[e.1]
  show Value.int .i64 b.h.kind=_
  rw[hTb]
 have t6:w2.cell? ⟨kb,ko+6,none⟩=some (.string ⟨#[97]⟩):=by rw[e6] at f6;simpa using f6
 have t0:w2.cell? ⟨kb,ko+12,none⟩=some (.int .i64 4):=by rw[e0] at g0;simpa using g0
 have HKB:kb<w2.heap.size:=hkb
 clear f0 f1 f2 f3 f4 f5 f6 f7 f8 f9 f10 f11 g0 g1 g2 g3 g4 g5 g6 g7 g8 g9 g10 g11 hN1 hN2 hk e6 e0 n3 hkb nx hTk hTa hTb hF1
 unfold headC
 generalize (⟨T.h.anchor.toArray⟩:ByteArray)=s1
 generalize (⟨T.h.tag.toArray⟩:ByteArray)=s2
 generalize (⟨T.h.text.toArray⟩:ByteArray)=s3
 generalize (⟨T.h.trail.toArray⟩:ByteArray)=s4
 go_wp2_with fail
 obtain ⟨WX,hWX⟩:∃ WX:World,WX=w2.alloc (.cells #[.int .i64 T.h.kind,.int .i64 T.h.style,.int .i64 T.h.at',.int .i64 T.h.blank,.string s1,.string s2,.string s3,.slice (some ⟨kb,ko,none⟩) 2 kc,.slice la T.h.lead.length lc,.slice fa T.h.foot.length fc,.bool T.h.ht,.string s4] 30):=⟨_,rfl⟩
 have r7:WX.cell? ⟨w2.heap.size,7,none⟩=some (.slice (some ⟨kb,ko,none⟩) 2 kc):=by rw[hWX];exact World.cell?_alloc_mark ..
 have z1:WX.heap.size=w2.heap.size+1:=by rw[hWX];simp
 have z2:Below w2.heap.size w2 WX:=by rw[hWX];exact (Below.refl _ _).alloc (Nat.le_refl _) _
 rw[←hWX]
 clear hWX
 have t6':WX.cell? ⟨kb,ko+6,none⟩=some (.string ⟨#[97]⟩):=(z2.cell (p:=⟨kb,ko+6,none⟩) HKB).trans t6
 have t0':WX.cell? ⟨kb,ko+12,none⟩=some (.int .i64 4):=(z2.cell (p:=⟨kb,ko+12,none⟩) HKB).trans t0
 have hb3:=b2.trans (z2.mono b2.size)
 have hEt:=K.keep _ _ hE hb3
 refine (K.read _ _ _ awakeB _ _ _ _ (by decide) hEt awakeF2).mono ?_
 rintro e w3 ⟨cy,rfl,ly,-,b3⟩
 have r7':=(b3.cell (p:=⟨w2.heap.size,7,none⟩) (by show w2.heap.size<_;omega)).trans r7
 have t6'':=(b3.cell (p:=⟨kb,ko+6,none⟩) (by show kb<_;omega)).trans t6'
 have t0'':=(b3.cell (p:=⟨kb,ko+12,none⟩) (by show kb<_;omega)).trans t0'
 clear t6 t0 t6' t0' r7
 obtain ⟨i1,i2,i3,i4,u1,u2,u3,a1,m1,d1,a2,m2,d2,a3,m3,d3,bo,u4,rfl⟩:=ly
 have z3:w2.heap.size<w3.heap.size:=by have:=b3.size;omega
 have z4:kb<w3.heap.size:=by omega
 have hb4:=hb3.trans (b3.mono hb3.size)
 go_wp2
 go_ret
 exact ⟨rfl,hb4.alloc hb4.size _⟩
set_option maxRecDepth 100000 in
set_option maxHeartbeats 6400000 in
theorem FlowRows_walk {Ev:World→Prop} (K:FlowC Ev) (v0 v1 v2:Value) (ks al bl:List Int) (w:World) (hE:Ev w) (h0:IsInts .i64 w.heap.size w v0 ks) (h1:IsInts .i64 w.heap.size w v1 al) (h2:IsInts .i64 w.heap.size w v2 bl) :
  Calls Tryz.prog 3 #[v0,v1,v2] w fun e w'=>e=.returned (.bool true)∧Below w.heap.size w w':=by
 obtain ⟨ao0,cap0,rfl,c0,d0⟩:=h0.slice
 obtain ⟨ao1,cap1,rfl,c1,d1⟩:=h1.slice
 obtain ⟨ao2,cap2,rfl,c2,d2⟩:=h2.slice
 unfold maxLen at d0 d1 d2
 by_cases hl1:12<ks.length
 ·have hl2:(12:Int)<(ks.length:Int):=by omega
  clear h0 h1 h2
  go_enter Tryz.func3,Tryz.ntmps3
  go_wp2_with fail
  refine (awake16_true K _ hE).mono ?_
  rintro e w5 ⟨rfl,b5⟩
  go_wp2
  go_ret
  exact ⟨rfl,b5⟩
 go_enter Tryz.func3,Tryz.ntmps3
 go_wp2_with fail
 refine (lawTokens_is ks _ _ h0 (by omega)).mono ?_
 rintro e w1 ⟨r,rfl,hr,hb1⟩
 obtain ⟨hmem,hlen⟩:=tokT_mem ks 1
 obtain ⟨l,hl⟩:∃ l,[91] :: tokT ks 1=l:=⟨_,rfl⟩
 have hl0:l≠[]:=by rw[←hl];simp
 have hlm:∀ t∈l,t∈tokL:=by
  intro t ht
  rw[←hl] at ht
  rcases List.mem_cons.1 ht with rfl|ht
  ·decide
  ·exact hmem t ht
 obtain ⟨n,hn⟩:∃ n,l.length=n:=⟨_,rfl⟩
 have hn0:n≤158:=by rw[←hn,←hl,List.length_cons];omega
 have hn1:0<n:=by rw[←hn];exact List.length_pos_iff.2 hl0
 rw[hl] at hr
 obtain ⟨sa,hsa⟩:∃ sa:Nat→List UInt8,sa=fun i=>sepK (al.getD i 0):=⟨_,rfl⟩
 obtain ⟨sb,hsb⟩:∃ sb:Nat→List UInt8,sb=fun i=>sepK (bl.getD i 0):=⟨_,rfl⟩
 have HR:=Lib.hid hr
 obtain ⟨g,cp,rfl,hg1,hg2,hg3⟩:=hr.shape (by omega)
 have hcell:∀ j,j<n→w1.cell? ⟨g,j,none⟩=some (.string ⟨(l.getD j []).toArray⟩):=by
  have:=hr.is
  obtain ⟨ao,cap,e,_,_,_,h5⟩:=this
  injection e with e1 e2 e3
  subst e1
  obtain ⟨b,o,e4,_,h6⟩:=h5 (by omega)
  injection e4 with e4
  injection e4 with e5 e6
  subst e5
  intro j hj
  have:=h6 j (by omega)
  rwa [←e6,Nat.zero_add] at this
 have hgl:g<w1.heap.size:=(hr.lt g rfl).2
 unfold maxLen at hg3
 rw[hn] at hg2 ⊢
 have HC:=Lib.hid hcell
 have HL:=Lib.hid hl
 have HM:=Lib.hid hlm
 have HSA:=Lib.hid hsa
 have HSB:=Lib.hid hsb
 have HN:=Lib.hid hn
 have H1:=Lib.hid h1
 have H2:=Lib.hid h2
 clear hcell hr hmem hlen hl hlm hsa hsb hl0 HR hn h1 h2 h0
 go_wp2
 go_loopw [8,9,10] (fun v8 v9 v10 wr=>∃ (P Q:List UInt8) (PB QB:ByteArray) (k:Nat),v8=.string PB∧v9=.string QB∧v10=.int .i64 (k:Int)∧k≤n∧PB.size≤11*k∧QB.size≤11*k∧Hid (PB=mkB P)∧Hid (QB=mkB Q)∧Hid (P++restS sa k (l.drop k)=restS sa 0 l)∧Hid (Q++restS sb k (l.drop k)=restS sb 0 l)∧Below w1.heap.size w1 wr) (fun _ _ v10 _=>n-(intOf v10).toNat)
 case atStart=>exact ⟨[],[],_,_,0,rfl,rfl,rfl,Nat.zero_le _,by decide,by decide,rfl,rfl,rfl,rfl,Below.refl _ _⟩
 case round=>
  obtain ⟨P,Q,PB,QB,k,rfl,rfl,rfl,hk,hPz,hQz,HP,HQ,HPR,HQR,hb⟩:=hrel
  by_cases hkn:k<n
  ·have hxp:(P++(if k=0 then [] else sa k)).length≤11*k+8∧(Q++(if k=0 then [] else sb k)).length≤11*k+8:=by
    have e1:PB.size=P.length:=by rw[HP.out,mkB_size]
    have e2:QB.size=Q.length:=by rw[HQ.out,mkB_size]
    rw[List.length_append,List.length_append]
    split
    ·exact ⟨by show _+0≤_;omega,by show _+0≤_;omega⟩
    ·have:=sep_len (sa k) (by rw[HSA.out];exact sepK_mem _)
     have:=sep_len (sb k) (by rw[HSB.out];exact sepK_mem _)
     omega
   obtain ⟨P1,hP1⟩:∃ P1,P++(if k=0 then [] else sa k)=P1:=⟨_,rfl⟩
   obtain ⟨Q1,hQ1⟩:∃ Q1,Q++(if k=0 then [] else sb k)=Q1:=⟨_,rfl⟩
   rw[hP1,hQ1] at hxp
   have HP1:=Lib.hid hP1
   have HQ1:=Lib.hid hQ1
   have HXP:=Lib.hid hxp
   have HB:=Lib.hid hb
   clear hP1 hQ1 hxp
   go_upto_if 32 with fail
   go_cut [8,9] (fun v8 v9 wx=>v8=.string (mkB P1)∧v9=.string (mkB Q1)∧Below w1.heap.size w1 wx)
   case first=>
    by_cases hk0:k=0
    ·have e1:PB=mkB P1:=by rw[HP.out,←HP1.out,if_pos hk0,List.append_nil]
     have e2:QB=mkB Q1:=by rw[HQ.out,←HQ1.out,if_pos hk0,List.append_nil]
     clear HP HQ HP1 HQ1 HPR HQR
     go_wp2
     go_meet
     case rel=>exact ⟨by rw[e1],by rw[e2],HB.out⟩
    ·have hki:0<k:=by omega
     have hki2:(0:Int)<(k:Int):=by omega
     obtain ⟨xa,hxa⟩:∃ x,al.getD k 0=x:=⟨_,rfl⟩
     obtain ⟨xb,hxb⟩:∃ x,bl.getD k 0=x:=⟨_,rfl⟩
     obtain ⟨RA,hRA⟩:∃ R:ByteArray,(⟨(sepK xa).toArray⟩:ByteArray)=R:=⟨_,rfl⟩
     obtain ⟨RB,hRB⟩:∃ R:ByteArray,(⟨(sepK xb).toArray⟩:ByteArray)=R:=⟨_,rfl⟩
     have hRAz:RA.size≤8:=by rw[←hRA,size_mk];exact sep_len _ (sepK_mem _)
     have hRBz:RB.size≤8:=by rw[←hRB,size_mk];exact sep_len _ (sepK_mem _)
     have e1:PB++RA=mkB P1:=by rw[HP.out,←HP1.out,if_neg hk0,←hRA,←hxa,HSA.out];exact mkB_append _ _
     have e2:QB++RB=mkB Q1:=by rw[HQ.out,←HQ1.out,if_neg hk0,←hRB,←hxb,HSB.out];exact mkB_append _ _
     have CA:=fun W=>lawRow_is xa RA W hRA
     have CB:=fun W=>lawRow_is xb RB W hRB
     have HXA:=Lib.hid hxa
     have HXB:=Lib.hid hxb
     have E1:=Lib.hid e1
     have E2:=Lib.hid e2
     clear hxa hxb hRA hRB e1 e2 HP HQ HP1 HQ1 HPR HQR hk0
     have hb2:=hb1.trans (hb.mono hb1.size)
     go_upto_if 36 with fail
     go_cut [11] (fun v wx=>v=.int .i64 xa∧wx=wr)
     case first=>
      by_cases ha:k<al.length
      ·obtain ⟨bb,oo,rfl,hlt,hcc⟩:=IsInts.at H1.out rfl (by omega)
       have g1:=hcc k ha
       rw[HXA.out,←hb2.cell (p:=⟨bb,oo+k,none⟩) hlt] at g1
       clear hcc HXA
       go_wp2
       go_meet
       case rel=>exact ⟨rfl,rfl⟩
      ·have hx0:(0:Int)=xa:=by rw[←HXA.out];simp[List.getD,List.getElem?_eq_none (show al.length≤k by omega)]
       clear HXA
       go_wp2
       go_meet
       case rel=>exact ⟨by rw[hx0],rfl⟩
     case rest=>
      obtain ⟨rfl,rfl⟩:=hcut
      go_upto_if 44 with fail
      go_cut [12] (fun v wx=>v=.int .i64 xb∧wx=wc)
      case first=>
       by_cases ha:k<bl.length
       ·obtain ⟨bb,oo,rfl,hlt,hcc⟩:=IsInts.at H2.out rfl (by omega)
        have g1:=hcc k ha
        rw[HXB.out,←hb2.cell (p:=⟨bb,oo+k,none⟩) hlt] at g1
        clear hcc HXB
        go_wp2
        go_meet
        case rel=>exact ⟨rfl,rfl⟩
       ·have hx0:(0:Int)=xb:=by rw[←HXB.out];simp[List.getD,List.getElem?_eq_none (show bl.length≤k by omega)]
        clear HXB
        go_wp2
        go_meet
        case rel=>exact ⟨by rw[hx0],rfl⟩
      case rest=>
       obtain ⟨rfl,rfl⟩:=hcut
       go_wp2_with fail
       refine (CA _).mono ?_
       rintro e wa ⟨rfl,ba⟩
       go_wp2_with fail
       refine (CB _).mono ?_
       rintro e wb ⟨rfl,bb2⟩
       have hb4:=(HB.out).trans (ba.mono HB.out.size)
       have hb5:=hb4.trans (bb2.mono hb4.size)
       go_wp2
       go_meet
       case rel=>exact ⟨by rw[←E1.out],by rw[←E2.out],hb5⟩
   case rest=>
    obtain ⟨rfl,rfl,hb3⟩:=hcut
    clear hb HB
    obtain ⟨X,hX⟩:∃ X:ByteArray,(⟨(l.getD k []).toArray⟩:ByteArray)=X:=⟨_,rfl⟩
    have hmX:l.getD k []∈l:=by
     simp only[List.getD]
     rw[List.getElem?_eq_getElem (by rw[HN.out];exact hkn),Option.getD_some]
     exact List.getElem_mem _
    have hXz:X.size≤3:=by rw[←hX,size_mk];exact tok_len _ (HM.out _ hmX)
    have g1:=HC.out k hkn
    rw[hX,←hb3.cell (p:=⟨g,k,none⟩) hgl] at g1
    have hdr:l.drop k=l.getD k [] :: l.drop (k+1):=getD_mem_drop l k (by rw[HN.out];exact hkn)
    have q1:Hid ((P1++l.getD k [])++restS sa (k+1) (l.drop (k+1))=restS sa 0 l):=by
     show _=_
     rw[←HPR.out,hdr,←HP1.out]
     show _=P++((if k=0 then [] else sa k)++l.getD k []++restS sa (k+1) (l.drop (k+1)))
     simp
    have q2:Hid ((Q1++l.getD k [])++restS sb (k+1) (l.drop (k+1))=restS sb 0 l):=by
     show _=_
     rw[←HQR.out,hdr,←HQ1.out]
     show _=Q++((if k=0 then [] else sb k)++l.getD k []++restS sb (k+1) (l.drop (k+1)))
     simp
    have e1:Hid (mkB P1++X=mkB (P1++l.getD k [])):=by show _=_;rw[←hX];exact mkB_append _ _
    have e2:Hid (mkB Q1++X=mkB (Q1++l.getD k [])):=by show _=_;rw[←hX];exact mkB_append _ _
    have z1:(mkB P1).size≤11*k+8:=by rw[mkB_size];exact HXP.out.1
    have z2:(mkB Q1).size≤11*k+8:=by rw[mkB_size];exact HXP.out.2
    obtain ⟨PP,hPP⟩:∃ PP,mkB P1=PP:=⟨_,rfl⟩
    obtain ⟨QQ,hQQ⟩:∃ QQ,mkB Q1=QQ:=⟨_,rfl⟩
    rw[hPP] at e1 z1
    rw[hQQ] at e2 z2
    rw[hPP,hQQ]
    clear hPP hQQ hX hdr hmX HP HQ HPR HQR HP1 HQ1 HXP
    have hs1:¬ (9223372036854775807<PP.size+X.size):=by omega
    have hs2:¬ (9223372036854775807<QQ.size+X.size):=by omega
    go_upto_region 15 with fail
    go_quiet (fail)
    have hbd:=below_drewN hb3 nq
    go_wp2
    go_roundw
    case rel=>exact ⟨_,_,_,_,k+1,rfl,rfl,by go_num,by omega,by rw[ByteArray.size_append];omega,by rw[ByteArray.size_append];omega,e1,e2,q1,q2,hbd⟩
    case measure=>simp[intOf];omega
  ·obtain rfl:n=k:=by omega
   have eP:PB=mkB (restS sa 0 l):=by
    have:=HPR.out
    rw[List.drop_eq_nil_of_le (by rw[HN.out];exact Nat.le_refl _)] at this
    rw[HP.out,←this]
    show mkB P=mkB (P++[])
    rw[List.append_nil]
   have eQ:QB=mkB (restS sb 0 l):=by
    have:=HQR.out
    rw[List.drop_eq_nil_of_le (by rw[HN.out];exact Nat.le_refl _)] at this
    rw[HQ.out,←this]
    show mkB Q=mkB (Q++[])
    rw[List.append_nil]
   obtain ⟨x,fx,ax,kx⟩:∃ x,FlowZ PB 0 0 0 (some x) (PB.size:Int) 0∧AlikeT x (listN (shp 13 ks 1).1)∧x.h.kind=3:=flow_text (by omega) (by rw[eP,←HL.out];exact rest_all sa (fun i=>by rw[HSA.out];exact sepK_mem _) _ _)
   obtain ⟨y,fy,ay,ky⟩:∃ y,FlowZ QB 0 0 0 (some y) (QB.size:Int) 0∧AlikeT y (listN (shp 13 ks 1).1)∧y.h.kind=3:=flow_text (by omega) (by rw[eQ,←HL.out];exact rest_all sb (fun i=>by rw[HSB.out];exact sepK_mem _) _ _)
   have hxy:=AlikeT.both x y _ ax ay
   have hb2:=hb1.trans (hb.mono hb1.size)
   have hEr:=K.keep _ _ hE hb2
   clear HPR HQR HP HQ HC HL HM HSA HSB HN H1 H2 eP eQ ax ay ky
   go_wp2_with fail
   refine (K.read _ _ _ _ _ _ _ _ (by omega) hEr fx).mono ?_
   rintro e w2 ⟨cx,rfl,lx,nx,b2⟩
   have hb3:=hb2.trans (b2.mono hb2.size)
   have hEs:=K.keep _ _ hE hb3
   have NX:=nx x rfl
   obtain ⟨kv,lv,fv,rfl,⟨la,lc,rfl,-,-,-⟩,⟨fa,fc,rfl,-,-,-⟩,⟨ka,kc,rfl,-,-,-⟩⟩:=NX.open
   unfold headC at NX ⊢
   generalize (⟨x.h.anchor.toArray⟩:ByteArray)=s1 at NX ⊢
   generalize (⟨x.h.tag.toArray⟩:ByteArray)=s2 at NX ⊢
   generalize (⟨x.h.text.toArray⟩:ByteArray)=s3 at NX ⊢
   generalize (⟨x.h.trail.toArray⟩:ByteArray)=s4 at NX ⊢
   clear lx nx
   go_wp2_with fail
   obtain ⟨WX,hWX⟩:∃ WX:World,WX=w2.alloc (.cells #[.int .i64 3,.int .i64 x.h.style,.int .i64 x.h.at',.int .i64 x.h.blank,.string s1,.string s2,.string s3,.slice ka x.kids.length kc,.slice la x.h.lead.length lc,.slice fa x.h.foot.length fc,.bool x.h.ht,.string s4] 30):=⟨_,rfl⟩
   have R1:Row12 WX w2.heap.size (.int .i64 3) (.int .i64 x.h.style) (.int .i64 x.h.at') (.int .i64 x.h.blank) (.string s1) (.string s2) (.string s3) (.slice ka x.kids.length kc) (.slice la x.h.lead.length lc) (.slice fa x.h.foot.length fc) (.bool x.h.ht) (.string s4):=Row12.at fun i _=>by rw[hWX];exact World.cell?_alloc_mark ..
   have z1:WX.heap.size=w2.heap.size+1:=by rw[hWX];simp
   have z2:Below w2.heap.size w2 WX:=by rw[hWX];exact (Below.refl _ _).alloc (Nat.le_refl _) _
   rw[←hWX]
   clear hWX
   have hb4:=hb3.trans (z2.mono hb3.size)
   have hEt:=K.keep _ _ hE hb4
   refine (K.read _ _ _ _ _ _ _ _ (by omega) hEt fy).mono ?_
   rintro e w3 ⟨cy,rfl,ly,ny,b3⟩
   have hb5:=hb4.trans (b3.mono hb4.size)
   have NX2:=(NX.below z2 z2.size).below b3 b3.size
   have NY:=ny y rfl
   have R2:=R1.below b3 (by omega)
   have z3:w2.heap.size<w3.heap.size:=by have:=b3.size;omega
   obtain ⟨kv,lv,fv,rfl,⟨la2,lc2,rfl,-,-,-⟩,⟨fa2,fc2,rfl,-,-,-⟩,⟨ka2,kc2,rfl,-,-,-⟩⟩:=NY.open
   unfold headC at NY ⊢
   generalize (⟨y.h.anchor.toArray⟩:ByteArray)=t1 at NY ⊢
   generalize (⟨y.h.tag.toArray⟩:ByteArray)=t2 at NY ⊢
   generalize (⟨y.h.text.toArray⟩:ByteArray)=t3 at NY ⊢
   generalize (⟨y.h.trail.toArray⟩:ByteArray)=t4 at NY ⊢
   clear ly ny
   obtain ⟨f0,f1,f2,f3,f4,f5,f6,f7,f8,f9,f10,f11⟩:=R2
   go_wp2_with fail
   have hb6:Below w3.heap.size w3 (w3.alloc (.cells #[.int .i64 y.h.kind,.int .i64 y.h.style,.int .i64 y.h.at',.int .i64 y.h.blank,.string t1,.string t2,.string t3,.slice ka2 y.kids.length kc2,.slice la2 y.h.lead.length lc2,.slice fa2 y.h.foot.length fc2,.bool y.h.ht,.string t4] 30)):=(Below.refl _ _).alloc (Nat.le_refl _) _
   have f12:(w3.alloc (.cells #[.int .i64 y.h.kind,.int .i64 y.h.style,.int .i64 y.h.at',.int .i64 y.h.blank,.string t1,.string t2,.string t3,.slice ka2 y.kids.length kc2,.slice la2 y.h.lead.length lc2,.slice fa2 y.h.foot.length fc2,.bool y.h.ht,.string t4] 30)).cell? ⟨w2.heap.size,0,none⟩=some (.int .i64 3):=(World.cell?_alloc_past _ _ _ z3).trans f0
   have z4:w2.heap.size<(w3.alloc (.cells #[.int .i64 y.h.kind,.int .i64 y.h.style,.int .i64 y.h.at',.int .i64 y.h.blank,.string t1,.string t2,.string t3,.slice ka2 y.kids.length kc2,.slice la2 y.h.lead.length lc2,.slice fa2 y.h.foot.length fc2,.bool y.h.ht,.string t4] 30)).heap.size:=by simp;omega
   have NX3:=NX2.below hb6 hb6.size
   have NY3:=NY.below hb6 hb6.size
   rw[kx] at NX3
   refine (Alike_is hxy _ _ _ NX3 NY3).mono ?_
   rintro e w4 ⟨rfl,b4⟩
   have hb7:=hb5.trans (hb6.mono hb5.size)
   have hb8:=hb7.trans (b4.mono hb7.size)
   have f13:=(b4.cell (p:=⟨w2.heap.size,0,none⟩) z4).trans f12
   have hEu:=K.keep _ _ hE hb8
   clear f0 f1 f2 f3 f4 f5 f6 f7 f8 f9 f10 f11 f12 NX3 NY3 NX2 NY NX b4
   go_wp2_with fail
   refine (awake16_true K _ hEu).mono ?_
   rintro e w5 ⟨rfl,b5⟩
   go_wp2
   go_ret
   exact ⟨rfl,hb8.trans (b5.mono hb8.size)⟩
end Go.Proofs.YtncngeamdechmaaGreatDoor

/- Parts of the proof, put together from smaller texts (blanks that Lean does not want are struck). Conditions: those that each theorem writes out. -/
import Derived.Deep.CutRange
import Derived.Defers
import Derived.Recover
import Derived.WalkLawsBesides
import Derived.Test.YthcmkpiajkbpnaaGreatDoorZ00
import Derived.Test.YthcmkpiajkbpnaaGreatDoorZ02
import Derived.Test.YthcmkpiajkbpnaaGreatDoorZ05
import Derived.Test.YthcmkpiajkbpnaaGreatDoorZ07
import Derived.Test.YthcmkpiajkbpnaaGreatDoorZ08
import Derived.Test.YthcmkpiajkbpnaaGreatDoorZ09
import Derived.Test.YthcmkpiajkbpnaaGreatDoorZ12
import Derived.Test.YthcmkpiajkbpnaaGreatDoorZ13
import Derived.Test.YthcmkpiajkbpnaaGreatDoorZ14
namespace Go.Proofs.YthcmkpiajkbpnaaGreatDoor
open Go.RowKit
set_option maxRecDepth 100000 in
set_option maxHeartbeats 3200000 in
theorem plaiRead_t (T:List UInt8) (E:Int) (O:Bool) (C:Int) (s:ByteArray) (at' n:Int) (w:World) (hs:s.size≤100000) (h:PlaiZ s at' n true T E O C) :
  Calls Tryz.prog 70 #[.string s,.int .i64 at',.int .i64 n,.bool true] w fun e w'=>e=.returned (.tuple #[.string ⟨T.toArray⟩,.int .i64 E,.bool O,.int .i64 C])∧Below w.heap.size w w':=by
 have hs2:s.size≤1099511627776:=by omega
 cases hb0:begB s at' true with
 | false=>
  unfold PlaiZ at h
  rw[hb0,if_pos rfl] at h
  obtain ⟨rfl,rfl,rfl,rfl⟩:=h
  have HB:=Lib.hid hb0
  clear hb0
  go_enter Tryz.func70,Tryz.ntmps70
  go_wp2_with fail
  refine (plaiBegins_is false s E true _ hs2 HB.out).mono ?_
  rintro e9 w9 ⟨rfl,rfl⟩
  go_wp2
  refine bodyPost_ret (results_tmp4 rfl _ _ _) rfl ?_
  exact ⟨rfl,Below.refl _ _⟩
 | true=>
  obtain ⟨h0,h1⟩:=beg_in hb0
  obtain ⟨k0,rfl⟩:∃ k0:Nat,at'=(k0:Int):=⟨at'.toNat,by omega⟩
  unfold PlaiZ at h
  rw[hb0,if_neg (by decide),Int.toNat_natCast] at h
  rw[Int.toNat_natCast] at h1
  obtain ⟨E',rfl,h⟩:=h
  obtain ⟨e0,he0⟩:=ParN.ex s true k0 (by omega)
  have hG:=h e0 he0
  have q1:=he0.ge
  have q2:=he0.le
  have HB:=Lib.hid hb0
  have HE0:=Lib.hid he0
  have hpl:(pieceL s k0 e0).length=e0-k0:=piece_len q2
  have hx0:s.extract k0 e0=⟨(pieceL s k0 e0).toArray⟩:=piece_ext s k0 e0
  have hsl0:∀ W,(Instr.slice 9 (.string s) (some (.int .i64 (k0:Int))) (some (.int .i64 (e0:Int))) none).run Tryz.prog W=.ok (.string ⟨(pieceL s k0 e0).toArray⟩) W:=fun W=>by
   rw[run_slice_string W 9 s .i64 .i64 k0 e0 Tryz.underlying9 (by omega) (by omega) (by omega),←hx0]
   rfl
  obtain ⟨P0,hP0⟩:∃ P0,pieceL s k0 e0=P0:=⟨_,rfl⟩
  rw[hP0] at hsl0 hpl hG
  have HG:=Lib.hid hG
  have htot:U.tot [P0]≤e0+1:=by simp[U.tot];omega
  clear hb0 he0 hG hx0 hP0 hpl h h0
  go_enter Tryz.func70,Tryz.ntmps70
  go_wp2_with fail
  refine (plaiBegins_is true s (k0:Int) true _ hs2 HB.out).mono ?_
  rintro e9 w9 ⟨rfl,rfl⟩
  go_wp2_with fail
  refine (plaiPart_is e0 s k0 true _ hs2 h1 HE0.out).mono ?_
  rintro e9 w1 ⟨rfl,hb1⟩
  go_wp2
  go_loopw [12,13] (fun v12 v13 wr=>∃ (e:Nat) (R:List (List UInt8)) (one:Bool) (g:Nat),v12=.int .i64 (e:Int)∧e≤s.size∧OutT w.heap.size wr v13 R∧Below w.heap.size w wr∧U.tot R≤e+1∧s.size<e+g∧0<R.length∧Hid (one=decide (R.length=1))∧Hid (PlaiG s n true T E' O C g e R one)) (fun v12 _ _=>s.size-(intOf v12).toNat)
  case atStart=>exact ⟨e0,[P0],true,s.size+1,rfl,q2,OutT_one w.heap.size w1 P0 hb1.size,hb1.alloc hb1.size _,htot,by omega,by simp,by show _=_;rfl,HG.out⟩
  case round=>
   obtain ⟨e,R,one,g,rfl,he,ho,hb,htt,hg,hR,HO,H⟩:=hrel
   obtain ⟨g,rfl⟩:∃ g',g=g'+1:=⟨g-1,by omega⟩
   obtain ⟨F,K,hN⟩:=NxS.ex s n (s.size+1) e (-1) (by omega)
   have hF:=hN.le he
   obtain ⟨E1,hS⟩:=StpN.ex s true F hF
   have hst:=H.out.step he hN hS
   have hE2:=hS.2.1
   have HN:=Lib.hid hN
   have HS:=Lib.hid hS
   have hRl:R.length≤e+1:=Nat.le_trans (tot_len R) htt
   clear hN hS HB HE0 HG hsl0 htot hb1 H
   rcases hst with ⟨hE,rT,rE,rO,rC⟩|⟨hFE,heF,k,rfl,hek,hc⟩
   ·obtain rfl:F=E1:=hE.symm
    obtain rfl:E'=e:=rE
    subst rO
    subst rC
    have RT:=Lib.hid rT.symm
    have hL:((R.length:Int)==1)=O:=by rw[HO.out,Bool.eq_iff_iff];simp;omega
    obtain ⟨gb,cp,rfl,_,_,_⟩:=ho.shape hR
    clear rT hE
    go_wp2_with fail
    refine (plaiNext_is F _ s _ n _ hs2 he HN.out).mono ?_
    rintro e9 w9 ⟨rfl,hb9⟩
    have hb3:=hb.trans (hb9.mono hb.size)
    have ho3:=ho.below hb9
    go_wp2_with fail
    refine (plaiStop_is _ s F true _ hs2 hF HS.out).mono ?_
    rintro e9 w8 ⟨rfl,hb8⟩
    have hb4:=hb3.trans (hb8.mono hb3.size)
    have ho4:=ho3.below hb8
    clear ho ho3 hb hb3 hb8 hb9
    go_wp2_with fail
    refine (foldFlow_is T _ R _ ho4.is (by omega) RT.out).mono ?_
    rintro e9 w7 ⟨rfl,hb7⟩
    go_wp2
    refine bodyPost_ret (results_tmp4 rfl _ _ _) rfl ?_
    exact ⟨rfl,hb4.trans (hb7.mono hb4.size)⟩
   ·have hc7:((E1:Int)==(F:Int))=false:=by simp;omega
    replace hc:=hc.resolve_left (fun h=>by cases h.1)
    obtain ⟨hn,q,hq,hFq,hG⟩:=hc
    have hq1:=hq.1
    have hq2:=hq.2.1
    have HQ:=Lib.hid hq
    have hpl:(pieceL s F q).length=q-F:=piece_len (by omega)
    have hx0:s.extract F q=⟨(pieceL s F q).toArray⟩:=piece_ext s F q
    have hsl0:∀ W,(Instr.slice 9 (.string s) (some (.int .i64 (F:Int))) (some (.int .i64 (q:Int))) none).run Tryz.prog W=.ok (.string ⟨(pieceL s F q).toArray⟩) W:=fun W=>by
     rw[run_slice_string W 9 s .i64 .i64 F q Tryz.underlying9 (by omega) (by omega) (by omega),←hx0]
     rfl
    obtain ⟨P0,hP0⟩:∃ P0,pieceL s F q=P0:=⟨_,rfl⟩
    rw[hP0] at hsl0 hpl hG
    have htt2:U.tot (R++(U.blanksL k++[P0]))≤q+1:=by
     rw[U.tot_append,U.tot_append,tot_blanks]
     simp only[U.tot]
     omega
    have hrl:(R++U.blanksL k).length≤1000000000:=by
     rw[List.length_append,U.blanksL,List.length_replicate]
     omega
    have hone:false=decide ((R++(U.blanksL k++[P0])).length=1):=by
     symm
     rw[decide_eq_false_iff_not]
     simp
     omega
    have hlp:0<(R++(U.blanksL k++[P0])).length:=by simp;omega
    have HTT:=Lib.hid htt2
    have HRL:=Lib.hid hrl
    have HG:=Lib.hid hG
    have HO2:=Lib.hid hone
    have HLP:=Lib.hid hlp
    have hkn:R.length+k≤1000000000:=by omega
    clear hq hx0 hP0 hpl hG htt2 hrl hone hlp htt HO hRl
    clear hn
    go_wp2_with fail
    refine (plaiNext_is F _ s _ n _ hs2 he HN.out).mono ?_
    rintro e9 w9 ⟨rfl,hb9⟩
    have hb3:=hb.trans (hb9.mono hb.size)
    have ho3:=ho.below hb9
    go_wp2_with fail
    refine (plaiStop_is _ s F true _ hs2 hF HS.out).mono ?_
    rintro e9 w8 ⟨rfl,hb8⟩
    have hb4:=hb3.trans (hb8.mono hb3.size)
    have ho4:=ho3.below hb8
    clear ho ho3 hb hb3 hb8 hb9
    go_wp2_with fail
    refine (plaiTrim_is q s F E1 _ hs2 hE2 HQ.out).mono ?_
    rintro e9 w7 ⟨rfl,rfl⟩
    go_wp2_with (at_builtin;first|(refine appendBlanks rfl _ _ rfl w.heap.size _ R k rfl rfl ho4 hR hkn hb4.size ?_;intro v2 w2 o2 g2;have hb5:=hb4.grown g2 hb4.size (fun k hk=>(ho4.lt k hk).1))|(refine appendOne w2 P0 rfl _ _ rfl w.heap.size w _ _ rfl rfl o2 hb5 HRL.out (Nat.le_refl _) ?_;intro v3 w3 o3 b3))
    rw[List.append_assoc] at o3
    go_roundw
    case rel=>exact ⟨q,R++(U.blanksL k++[P0]),false,g,rfl,by omega,o3,b3,HTT.out,by omega,HLP.out,HO2,HG⟩
    case measure=>simp[intOf];omega
set_option maxRecDepth 100000 in
set_option maxHeartbeats 3200000 in
theorem plaiRead_f (T:List UInt8) (E:Int) (O:Bool) (C:Int) (s:ByteArray) (at' n:Int) (w:World) (hs:s.size≤100000) (h:PlaiZ s at' n false T E O C) :
  Calls Tryz.prog 70 #[.string s,.int .i64 at',.int .i64 n,.bool false] w fun e w'=>e=.returned (.tuple #[.string ⟨T.toArray⟩,.int .i64 E,.bool O,.int .i64 C])∧Below w.heap.size w w':=by
 have hs2:s.size≤1099511627776:=by omega
 cases hb0:begB s at' false with
 | false=>
  unfold PlaiZ at h
  rw[hb0,if_pos rfl] at h
  obtain ⟨rfl,rfl,rfl,rfl⟩:=h
  have HB:=Lib.hid hb0
  clear hb0
  go_enter Tryz.func70,Tryz.ntmps70
  go_wp2_with fail
  refine (plaiBegins_is false s E false _ hs2 HB.out).mono ?_
  rintro e9 w9 ⟨rfl,rfl⟩
  go_wp2
  refine bodyPost_ret (results_tmp4 rfl _ _ _) rfl ?_
  exact ⟨rfl,Below.refl _ _⟩
 | true=>
  obtain ⟨h0,h1⟩:=beg_in hb0
  obtain ⟨k0,rfl⟩:∃ k0:Nat,at'=(k0:Int):=⟨at'.toNat,by omega⟩
  unfold PlaiZ at h
  rw[hb0,if_neg (by decide),Int.toNat_natCast] at h
  rw[Int.toNat_natCast] at h1
  obtain ⟨E',rfl,h⟩:=h
  obtain ⟨e0,he0⟩:=ParN.ex s false k0 (by omega)
  have hG:=h e0 he0
  have q1:=he0.ge
  have q2:=he0.le
  have HB:=Lib.hid hb0
  have HE0:=Lib.hid he0
  have hpl:(pieceL s k0 e0).length=e0-k0:=piece_len q2
  have hx0:s.extract k0 e0=⟨(pieceL s k0 e0).toArray⟩:=piece_ext s k0 e0
  have hsl0:∀ W,(Instr.slice 9 (.string s) (some (.int .i64 (k0:Int))) (some (.int .i64 (e0:Int))) none).run Tryz.prog W=.ok (.string ⟨(pieceL s k0 e0).toArray⟩) W:=fun W=>by
   rw[run_slice_string W 9 s .i64 .i64 k0 e0 Tryz.underlying9 (by omega) (by omega) (by omega),←hx0]
   rfl
  obtain ⟨P0,hP0⟩:∃ P0,pieceL s k0 e0=P0:=⟨_,rfl⟩
  rw[hP0] at hsl0 hpl hG
  have HG:=Lib.hid hG
  have htot:U.tot [P0]≤e0+1:=by simp[U.tot];omega
  clear hb0 he0 hG hx0 hP0 hpl h h0
  go_enter Tryz.func70,Tryz.ntmps70
  go_wp2_with fail
  refine (plaiBegins_is true s (k0:Int) false _ hs2 HB.out).mono ?_
  rintro e9 w9 ⟨rfl,rfl⟩
  go_wp2_with fail
  refine (plaiPart_is e0 s k0 false _ hs2 h1 HE0.out).mono ?_
  rintro e9 w1 ⟨rfl,hb1⟩
  go_wp2
  go_loopw [12,13] (fun v12 v13 wr=>∃ (e:Nat) (R:List (List UInt8)) (one:Bool) (g:Nat),v12=.int .i64 (e:Int)∧e≤s.size∧OutT w.heap.size wr v13 R∧Below w.heap.size w wr∧U.tot R≤e+1∧s.size<e+g∧0<R.length∧Hid (one=decide (R.length=1))∧Hid (PlaiG s n false T E' O C g e R one)) (fun v12 _ _=>s.size-(intOf v12).toNat)
  case atStart=>exact ⟨e0,[P0],true,s.size+1,rfl,q2,OutT_one w.heap.size w1 P0 hb1.size,hb1.alloc hb1.size _,htot,by omega,by simp,by show _=_;rfl,HG.out⟩
  case round=>
   obtain ⟨e,R,one,g,rfl,he,ho,hb,htt,hg,hR,HO,H⟩:=hrel
   obtain ⟨g,rfl⟩:∃ g',g=g'+1:=⟨g-1,by omega⟩
   obtain ⟨F,K,hN⟩:=NxS.ex s n (s.size+1) e (-1) (by omega)
   have hF:=hN.le he
   obtain ⟨E1,hS⟩:=StpN.ex s false F hF
   have hst:=H.out.step he hN hS
   have hE2:=hS.2.1
   have HN:=Lib.hid hN
   have HS:=Lib.hid hS
   have hRl:R.length≤e+1:=Nat.le_trans (tot_len R) htt
   clear hN hS HB HE0 HG hsl0 htot hb1 H
   rcases hst with ⟨hE,rT,rE,rO,rC⟩|⟨hFE,heF,k,rfl,hek,hc⟩
   ·obtain rfl:F=E1:=hE.symm
    obtain rfl:E'=e:=rE
    subst rO
    subst rC
    have RT:=Lib.hid rT.symm
    have hL:((R.length:Int)==1)=O:=by rw[HO.out,Bool.eq_iff_iff];simp;omega
    obtain ⟨gb,cp,rfl,_,_,_⟩:=ho.shape hR
    clear rT hE
    go_wp2_with fail
    refine (plaiNext_is F _ s _ n _ hs2 he HN.out).mono ?_
    rintro e9 w9 ⟨rfl,hb9⟩
    have hb3:=hb.trans (hb9.mono hb.size)
    have ho3:=ho.below hb9
    go_wp2_with fail
    refine (plaiStop_is _ s F false _ hs2 hF HS.out).mono ?_
    rintro e9 w8 ⟨rfl,hb8⟩
    have hb4:=hb3.trans (hb8.mono hb3.size)
    have ho4:=ho3.below hb8
    clear ho ho3 hb hb3 hb8 hb9
    go_wp2_with fail
    refine (foldFlow_is T _ R _ ho4.is (by omega) RT.out).mono ?_
    rintro e9 w7 ⟨rfl,hb7⟩
    go_wp2
    refine bodyPost_ret (results_tmp4 rfl _ _ _) rfl ?_
    exact ⟨rfl,hb4.trans (hb7.mono hb4.size)⟩
   ·have hc7:((E1:Int)==(F:Int))=false:=by simp;omega
    rcases hc with ⟨_,hl,h58,rT,rE,rO,rC⟩|hc
    ·subst rT
     obtain rfl:E'=E1:=rE
     subst rO
     subst rC
     have HC:=Lib.hid (show decide (E'<s.size∧byt s E'=58)=true from decide_eq_true ⟨hl,h58⟩)
     clear h58
     go_wp2_with fail
     refine (plaiNext_is F _ s _ n _ hs2 he HN.out).mono ?_
     rintro e9 w9 ⟨rfl,hb9⟩
     have hb3:=hb.trans (hb9.mono hb.size)
     have ho3:=ho.below hb9
     go_wp2_with fail
     refine (plaiStop_is _ s F false _ hs2 hF HS.out).mono ?_
     rintro e9 w8 ⟨rfl,hb8⟩
     have hb4:=hb3.trans (hb8.mono hb3.size)
     have ho4:=ho3.below hb8
     clear ho ho3 hb hb3 hb8 hb9
     go_wp2_with fail
     refine (colon_is true s E' _ HC.out).mono ?_
     rintro e9 w7 ⟨rfl,rfl⟩
     go_wp2
     refine bodyPost_ret (results_tmp4 rfl _ _ _) rfl ?_
     exact ⟨rfl,hb4⟩
    ·have _h:=hc
     obtain ⟨hn,q,hq,hFq,hG⟩:=hc
     have hq1:=hq.1
     have hq2:=hq.2.1
     have HQ:=Lib.hid hq
     have hpl:(pieceL s F q).length=q-F:=piece_len (by omega)
     have hx0:s.extract F q=⟨(pieceL s F q).toArray⟩:=piece_ext s F q
     have hsl0:∀ W,(Instr.slice 9 (.string s) (some (.int .i64 (F:Int))) (some (.int .i64 (q:Int))) none).run Tryz.prog W=.ok (.string ⟨(pieceL s F q).toArray⟩) W:=fun W=>by
      rw[run_slice_string W 9 s .i64 .i64 F q Tryz.underlying9 (by omega) (by omega) (by omega),←hx0]
      rfl
     obtain ⟨P0,hP0⟩:∃ P0,pieceL s F q=P0:=⟨_,rfl⟩
     rw[hP0] at hsl0 hpl hG
     have htt2:U.tot (R++(U.blanksL k++[P0]))≤q+1:=by
      rw[U.tot_append,U.tot_append,tot_blanks]
      simp only[U.tot]
      omega
     have hrl:(R++U.blanksL k).length≤1000000000:=by
      rw[List.length_append,U.blanksL,List.length_replicate]
      omega
     have hone:false=decide ((R++(U.blanksL k++[P0])).length=1):=by
      symm
      rw[decide_eq_false_iff_not]
      simp
      omega
     have hlp:0<(R++(U.blanksL k++[P0])).length:=by simp;omega
     have HTT:=Lib.hid htt2
     have HRL:=Lib.hid hrl
     have HG:=Lib.hid hG
     have HO2:=Lib.hid hone
     have HLP:=Lib.hid hlp
     have hkn:R.length+k≤1000000000:=by omega
     clear hq hx0 hP0 hpl hG htt2 hrl hone hlp htt HO hRl
     have HN58:=Lib.hid (show decide (E1<s.size∧byt s E1=58)=false from decide_eq_false fun hh=>hn ⟨rfl,hh⟩)
     clear hn
     go_wp2_with fail
     refine (plaiNext_is F _ s _ n _ hs2 he HN.out).mono ?_
     rintro e9 w9 ⟨rfl,hb9⟩
     have hb3:=hb.trans (hb9.mono hb.size)
     have ho3:=ho.below hb9
     go_wp2_with fail
     refine (plaiStop_is _ s F false _ hs2 hF HS.out).mono ?_
     rintro e9 w8 ⟨rfl,hb8⟩
     have hb4:=hb3.trans (hb8.mono hb3.size)
     have ho4:=ho3.below hb8
     clear ho ho3 hb hb3 hb8 hb9
     go_wp2_with fail
     refine (colon_is false s E1 _ HN58.out).mono ?_
     rintro e9 w7 ⟨rfl,rfl⟩
     go_wp2_with fail
     refine (plaiTrim_is q s F E1 _ hs2 hE2 HQ.out).mono ?_
     rintro e9 w7 ⟨rfl,rfl⟩
     go_wp2_with (at_builtin;first|(refine appendBlanks rfl _ _ rfl w.heap.size _ R k rfl rfl ho4 hR hkn hb4.size ?_;intro v2 w2 o2 g2;have hb5:=hb4.grown g2 hb4.size (fun k hk=>(ho4.lt k hk).1))|(refine appendOne w2 P0 rfl _ _ rfl w.heap.size w _ _ rfl rfl o2 hb5 HRL.out (Nat.le_refl _) ?_;intro v3 w3 o3 b3))
     rw[List.append_assoc] at o3
     go_roundw
     case rel=>exact ⟨q,R++(U.blanksL k++[P0]),false,g,rfl,by omega,o3,b3,HTT.out,by omega,HLP.out,HO2,HG⟩
     case measure=>simp[intOf];omega
theorem plaiRead_is (T:List UInt8) (E:Int) (O:Bool) (C:Int) (s:ByteArray) (at' n:Int) (fl:Bool) (w:World) (hs:s.size≤100000) (h:PlaiZ s at' n fl T E O C) :
  Calls Tryz.prog 70 #[.string s,.int .i64 at',.int .i64 n,.bool fl] w fun e w'=>e=.returned (.tuple #[.string ⟨T.toArray⟩,.int .i64 E,.bool O,.int .i64 C])∧Below w.heap.size w w':=by
 cases fl with
 | true=>exact plaiRead_t T E O C s at' n w hs h
 | false=>exact plaiRead_f T E O C s at' n w hs h
end Go.Proofs.YthcmkpiajkbpnaaGreatDoor
namespace Go.Proofs.YthcmkpiajkbpnaaGreatDoor
open Go.RowKit
def trC (s:ByteArray) (p:Nat) (v:Value):Array Value:=#[.string s,.int .i64 (p:Int),v]
def TrAt (g:Nat) (s:ByteArray) (p:Nat) (v:Value) (w:World):Prop:=w.heap[g]?=some (.cells (trC s p v) 53 (0,0))
section
variable {g:Nat} {s:ByteArray} {p:Nat} {v:Value} {w:World}
theorem TrAt.lt (h:TrAt g s p v w):g<w.heap.size:=(Array.getElem?_eq_some_iff.1 h).1
theorem TrAt.cell (h:TrAt g s p v w):∀ j,w.cell? ⟨g,j,none⟩=(#[.string s,.int .i64 (p:Int),v]:Array Value)[j]?:=fun j=>cell_of_row w _ j _ _ _ h
theorem TrAt.free (h:TrAt g s p v w):∀ j,w.frozen? ⟨g,j,none⟩=false:=fun j=>frozen_of_row w _ j _ _ h
theorem TrAt.below {B:Nat} {w':World} (h:TrAt g s p v w) (hb:Below B w w') (hg:g<B):TrAt g s p v w':=(hb.block g hg).trans h
theorem TrAt.drewN (h:TrAt g s p v w) (k:Nat):TrAt g s p v (w.drewN k):=h.below (Go.below_drewN (Below.refl _ _) k) h.lt
end
def flt (q:Nat) (c:Int):Ending:=.panicked [{ v:=.iface 51 (.agg #[.int .i64 (q:Int),.int .i64 c]),recovered:=false }]
set_option maxRecDepth 100000 in
theorem trRaise_is (q:Nat) (c:Int) (w:World):Calls Tryz.prog 17 #[.int .i64 (q:Int),.int .i64 c] w fun e w'=>e=flt q c∧w'=w:=by
 go_enter Tryz.func17,Tryz.ntmps17
 go_wp2
 exact ⟨rfl,rfl,rfl⟩
set_option maxRecDepth 100000 in
theorem trExpect_ok (q:Nat) (w:World):Calls Tryz.prog 46 #[.int .i64 (q:Int),.int .i64 0] w fun e w'=>e=.returned (.tuple #[])∧w'=w:=by
 go_enter Tryz.func46,Tryz.ntmps46
 go_wp2
 go_end0
 exact ⟨rfl,rfl⟩
set_option maxRecDepth 100000 in
theorem trExpect_bad (q:Nat) (c:Int) (hc:c≠0) (w:World):Calls Tryz.prog 46 #[.int .i64 (q:Int),.int .i64 c] w fun e w'=>e=flt q c∧w'=w:=by
 have hb:(c != 0)=true:=by rw[bne,Bool.not_eq_eq_eq_not,Bool.not_true,beq_eq_false_iff_ne];exact hc
 go_enter Tryz.func46,Tryz.ntmps46
 go_wp2_with fail
 refine (trRaise_is q c _).mono ?_
 rintro e w' ⟨rfl,rfl⟩
 exact ⟨rfl,rfl,rfl⟩
theorem colF_rowB {s:ByteArray} {p a:Nat} (h:RowB s p a):(p:Int)-(a:Int)=(colF s p:Int):=by
 have h1:=colF_row p h.1 (sameRow_iff.2 fun j j1 j2=>h.2.1 j j1 j2)
 have h0:colF s a=0:=by
  rcases h.2.2 with h2|h2
  ·rw[h2];rfl
  ·cases a with
   | zero=>rfl
   | succ a=>
    rw[Nat.add_sub_cancel] at h2
    show (if byt s a=10 then 0 else _)=0
    rw[if_pos h2]
 have:=h.1
 rw[h1,h0]
 omega
section
variable (g:Nat) (s:ByteArray) (p:Nat) (v:Value) (w:World)
set_option maxRecDepth 100000 in
theorem trCol_is (h:TrAt g s p v w) (hs:s.size≤10000) (hp:p≤s.size):Calls Tryz.prog 33 #[.pointer (some ⟨g,0,none⟩)] w fun e w'=>e=.returned (.int .i64 (colF s p:Int))∧∃ k,w'=w.drewN k:=by
 obtain ⟨a,ha⟩:=RowB.ex s p
 have CC:∀ W,Calls Tryz.prog 43 #[.string s,.int .i64 (p:Int)] W fun e w'=>e=.returned (.int .i64 (colF s p:Int))∧W=w':=fun W=>by
  rw[←colF_rowB ha]
  exact Col_is a p s (p:Int) W (by omega) (clampN_self _ _ hp) ha
 have hc:=h.cell
 clear h
 go_enter Tryz.func33,Tryz.ntmps33
 go_wp2_with fail
 go_quiet (first|exact Calls.quiet_of_same ((CC _).mono (by rintro e w' ⟨rfl,rfl⟩;exact ⟨rfl,rfl⟩)))
 go_wp2
 go_ret
 exact ⟨rfl,_,rfl⟩
set_option maxRecDepth 100000 in
theorem trMark_fn (q:Bool) (c:Nat) (hs:s.size≤10000) (hq:markB s p c=q):Calls Tryz.prog 37 #[.string s,.int .i64 (p:Int),.int .u8 (c:Int)] w fun e w'=>e=.returned (.bool q)∧w'=w:=by
 have CE:=fun W=>Ends_is (endsB s ((p+1:Nat):Int)) s ((p:Int)+1) W (by omega) (by rw[show ((p+1:Nat):Int)=(p:Int)+1 by omega])
 by_cases hp:p<s.size
 ·have hi:=run_byt s p hp _ rfl
  obtain ⟨y,hy⟩:∃ y:Nat,byt s p=y:=⟨_,rfl⟩
  have hd:decide ((p:Int)<(s.size:Int))=true:=decide_eq_true (by omega)
  by_cases hyc:y=c
  ·subst hyc
   have:markB s p y=endsB s ((p+1:Nat):Int):=by unfold markB;rw[isB_in.2 ⟨hp,hy⟩,Bool.true_and]
   rw[this] at hq
   rw[hq] at CE
   rw[hy] at hi
   have hb:((y:Int)==(y:Int))=true:=by rw[beq_iff_eq]
   clear this hq hy
   go_enter Tryz.func37,Tryz.ntmps37
   go_wp2_with fail
   refine (CE _).mono ?_
   rintro e w1 ⟨rfl,rfl⟩
   go_wp2
   go_ret
   exact ⟨rfl,rfl⟩
  ·have:markB s p c=false:=by unfold markB;rw[isB_no (by rw[hy];exact hyc),Bool.false_and]
   rw[this] at hq
   subst hq
   rw[hy] at hi
   have hb:((y:Int)==(c:Int))=false:=by rw[beq_eq_false_iff_ne];omega
   clear this hy CE hyc
   go_enter Tryz.func37,Tryz.ntmps37
   go_wp2
   go_ret
   exact ⟨rfl,rfl⟩
 ·have:markB s p c=false:=by unfold markB isB;rw[decide_eq_false (fun e=>hp e.1),Bool.false_and]
  rw[this] at hq
  subst hq
  have hd:(s.size:Int)≤(p:Int):=by omega
  clear this CE hp
  go_enter Tryz.func37,Tryz.ntmps37
  go_wp2
  go_ret
  exact ⟨rfl,rfl⟩
set_option maxRecDepth 100000 in
theorem trMark_is (q:Bool) (c:Nat) (h:TrAt g s p v w) (hs:s.size≤10000) (hq:markB s p c=q):Calls Tryz.prog 47 #[.pointer (some ⟨g,0,none⟩),.int .u8 (c:Int)] w fun e w'=>e=.returned (.bool q)∧∃ k,w'=w.drewN k:=by
 have CM:=fun W=>trMark_fn s p W q c hs hq
 have hc:=h.cell
 clear h hq
 go_enter Tryz.func47,Tryz.ntmps47
 go_wp2_with fail
 go_quiet (first|exact Calls.quiet_of_same ((CM _).mono (by rintro e w' ⟨rfl,rfl⟩;exact ⟨rfl,rfl⟩)))
 go_wp2
 go_ret
 exact ⟨rfl,_,rfl⟩
theorem kind_m3 {s:ByteArray} {p t q:Nat} (ht:RowE s p t):(kindN s p t q=3↔m3B s p 45=true)∧(kindN s p t q=4↔(m3B s p 45=false∧m3B s p 46=true)):=by
 have key:∀ ch,ch≠10→(mk3 s p t ch=true↔m3B s p ch=true):=fun ch hch=>by
  unfold mk3 m3B
  rw[decide_eq_true_eq,Bool.and_eq_true,Bool.and_eq_true,Bool.and_eq_true]
  have h1:=ht.1
  have h2:=ht.2.1
  constructor
  ·rintro ⟨a1,a2,a3,a4,a5⟩
   refine ⟨isB_in.2 ⟨by omega,a2⟩,isB_in.2 ⟨by omega,a3⟩,isB_in.2 ⟨by omega,a4⟩,?_⟩
   by_cases h3:p+3<s.size
   ·rw[endsB_in s _ h3]
    rcases a5 with a5|a5
    ·rcases ht.2.2.2 with e|e
     ·omega
     ·rw[a5,e];decide
    ·unfold U.white at a5
     unfold U.endc
     rw[decide_eq_true_eq] at a5 ⊢
     omega
   ·unfold endsB
    rw[if_pos (.inr (by omega))]
  ·rintro ⟨b1,b2,b3,b4⟩
   have b1:=isB_lt b1
   have b2:=isB_lt b2
   have b3:=isB_lt b3
   have hge:p+3≤t:=by
    refine Decidable.byContradiction fun hn=>?_
    rcases ht.2.2.2 with e|e
    ·omega
    ·have:t=p∨t=p+1∨t=p+2:=by omega
     rcases this with e2|e2|e2 <;> rw[e2] at e <;> omega
   refine ⟨hge,b1.2,b2.2,b3.2,?_⟩
   by_cases h3:p+3=t
   ·exact .inl h3
   ·right
    have hlt:p+3<s.size:=by omega
    rw[endsB_in s _ hlt] at b4
    have:=ht.2.2.1 (p+3) (by omega) (by omega)
    unfold U.endc at b4
    unfold U.white
    rw[decide_eq_true_eq] at b4 ⊢
    omega
 have k1:=key 45 (by decide)
 have k2:=key 46 (by decide)
 unfold kindN
 by_cases h1:mk3 s p t 45=true
 ·have h2:=k1.1 h1
  rw[if_pos h1,h2]
  refine ⟨by simp,by simp⟩
 ·have h2:m3B s p 45=false:=Bool.eq_false_iff.2 fun e=>h1 (k1.2 e)
  rw[if_neg h1,h2]
  by_cases h3:mk3 s p t 46=true
  ·rw[if_pos h3,k2.1 h3]
   refine ⟨by simp,by simp⟩
  ·have h4:m3B s p 46=false:=Bool.eq_false_iff.2 fun e=>h3 (k2.2 e)
   rw[if_neg h3,h4]
   constructor
   ·constructor
    ·intro e;split at e <;> (try split at e) <;> omega
    ·intro e;cases e
   ·constructor
    ·intro e;split at e <;> (try split at e) <;> omega
    ·rintro ⟨_,e⟩;cases e
set_option maxRecDepth 100000 in
theorem trOver_is (q:Bool) (h:TrAt g s p v w) (hs:s.size≤10000) (hp:p≤s.size) (hq:overB s p=q):Calls Tryz.prog 16 #[.pointer (some ⟨g,0,none⟩)] w fun e w'=>e=.returned (.bool q)∧∃ k,w'=w.drewN k:=by
 obtain ⟨a,ha⟩:=RowB.ex s p
 obtain ⟨t,ht⟩:=RowE.ex s p hp
 obtain ⟨f,hf⟩:=FirN.ex s a t (Nat.le_trans ha.1 ht.1)
 obtain ⟨kd,hk⟩:∃ kd,kindN s a t f=kd:=⟨_,rfl⟩
 have CK:∀ W,Calls Tryz.prog 32 #[.string s,.int .i64 (p:Int)] W fun e w'=>e=.returned (.int .i64 kd)∧W=w':=fun W=>
  rowsKind_is kd a t f s (p:Int) W (by omega) (by rw[clampN_self _ _ hp];exact ha) (by rw[clampN_self _ _ hp];exact ht) hf hk
 have CC:=fun W H=>trCol_is g s p v W H hs hp
 have H:=Lib.hid h
 have hc:=h.cell
 clear h
 by_cases hps:p=s.size
 ·have e1:((p:Int)==(s.size:Int))=true:=by rw[beq_iff_eq];omega
  have:q=true:=by rw[←hq];unfold overB;rw[decide_eq_true (by omega),Bool.true_or]
  subst this
  clear hq hps CK CC hk hf ha ht
  go_enter Tryz.func16,Tryz.ntmps16
  go_wp2_with fail
  go_quiet (fail)
  go_wp2
  go_ret
  exact ⟨rfl,_,rfl⟩
 ·have e1:((p:Int)==(s.size:Int))=false:=by rw[beq_eq_false_iff_ne];omega
  obtain ⟨c,hcc⟩:∃ c,colF s p=c:=⟨_,rfl⟩
  rw[hcc] at CC
  have hcb:(c=0↔row0B s p=true):=by
   have h1:=colF_rowB ha
   rw[hcc] at h1
   unfold row0B
   rw[decide_eq_true_eq]
   constructor
   ·intro e
    have e2:a=p:=by have:=ha.1;omega
    rw[e2] at ha
    exact ha.2.2
   ·intro e
    rcases e with e|e
    ·have:=ha.1;omega
    ·refine Decidable.byContradiction fun hn=>?_
     have h2:=ha.1
     exact ha.2.1 (p-1) (by omega) (by omega) e
  have hq2:q=(decide (c=0)&&(decide (kd=3)||decide (kd=4))):=by
   rw[←hq]
   unfold overB
   rw[decide_eq_false (by omega),Bool.false_or]
   by_cases h0:c=0
   ·rw[hcb.1 h0,decide_eq_true h0,Bool.true_and,Bool.true_and]
    have e2:a=p:=by have h1:=colF_rowB ha;have:=ha.1;omega
    subst e2
    obtain ⟨k1,k2⟩:=kind_m3 (q:=f) ht
    rw[hk] at k1 k2
    rw[Bool.eq_iff_iff,Bool.or_eq_true,Bool.or_eq_true,decide_eq_true_eq,decide_eq_true_eq,k1,k2]
    cases m3B s a 45 <;> simp
   ·rw[decide_eq_false h0,Bool.false_and,Bool.eq_false_iff.2 (fun e=>h0 (hcb.2 e)),Bool.false_and]
  clear hq hps hcb hk hf ha ht hcc
  by_cases h0:c=0
  ·subst h0
   rw[decide_eq_true rfl,Bool.true_and] at hq2
   have e2:(((0:Nat):Int)==0)=true:=by decide
   by_cases h3:kd=3
   ·subst h3
    have:q=true:=by rw[hq2];rfl
    subst this
    clear hq2
    go_enter Tryz.func16,Tryz.ntmps16
    go_wp2_with fail
    go_quiet (fail)
    go_wp2_with fail
    obtain ⟨w1,hw1⟩:∃ w1,w1=w.drewN nq:=⟨_,rfl⟩
    have H1:TrAt g s p v w1:=by rw[hw1];exact H.out.drewN nq
    have hc1:=H1.cell
    have HH:=Lib.hid H1
    rw[←hw1]
    have HW:=Lib.hid hw1
    clear hw1 H1 hc
    go_quiet (first|exact Calls.quiet_of_same ((CK _).mono (by rintro e w' ⟨rfl,rfl⟩;exact ⟨rfl,rfl⟩)))
    go_wp2_with fail
    refine (CC _ (HH.out.drewN _)).mono ?_
    rintro e w1 ⟨rfl,k,rfl⟩
    go_wp2
    go_ret
    exact ⟨rfl,_,by rw[HW.out,World.drewN_drewN]⟩
   ·by_cases h4:kd=4
    ·subst h4
     have:q=true:=by rw[hq2];rfl
     subst this
     clear hq2
     go_enter Tryz.func16,Tryz.ntmps16
     go_wp2_with fail
     go_quiet (fail)
     go_wp2_with fail
     obtain ⟨w1,hw1⟩:∃ w1,w1=w.drewN nq:=⟨_,rfl⟩
     have H1:TrAt g s p v w1:=by rw[hw1];exact H.out.drewN nq
     have hc1:=H1.cell
     have HH:=Lib.hid H1
     rw[←hw1]
     have HW:=Lib.hid hw1
     clear hw1 H1 hc
     go_quiet (first|exact Calls.quiet_of_same ((CK _).mono (by rintro e w' ⟨rfl,rfl⟩;exact ⟨rfl,rfl⟩)))
     go_wp2_with fail
     refine (CC _ (HH.out.drewN _)).mono ?_
     rintro e w1 ⟨rfl,k,rfl⟩
     go_wp2
     go_ret
     exact ⟨rfl,_,by rw[HW.out,World.drewN_drewN]⟩
    ·have:q=false:=by rw[hq2,decide_eq_false h3,decide_eq_false h4];rfl
     subst this
     have e3:(kd==3)=false:=by rw[beq_eq_false_iff_ne];exact h3
     have e4:(kd==4)=false:=by rw[beq_eq_false_iff_ne];exact h4
     clear hq2 h3 h4
     go_enter Tryz.func16,Tryz.ntmps16
     go_wp2_with fail
     go_quiet (fail)
     go_wp2_with fail
     obtain ⟨w1,hw1⟩:∃ w1,w1=w.drewN nq:=⟨_,rfl⟩
     have H1:TrAt g s p v w1:=by rw[hw1];exact H.out.drewN nq
     have hc1:=H1.cell
     have HH:=Lib.hid H1
     rw[←hw1]
     have HW:=Lib.hid hw1
     clear hw1 H1 hc
     go_quiet (first|exact Calls.quiet_of_same ((CK _).mono (by rintro e w' ⟨rfl,rfl⟩;exact ⟨rfl,rfl⟩)))
     go_wp2_with fail
     refine (CC _ (HH.out.drewN _)).mono ?_
     rintro e w1 ⟨rfl,k,rfl⟩
     go_wp2
     go_ret
     exact ⟨rfl,_,by rw[HW.out,World.drewN_drewN]⟩
  ·have:q=false:=by rw[hq2,decide_eq_false h0];rfl
   subst this
   have e2:((c:Int)==0)=false:=by rw[beq_eq_false_iff_ne];omega
   clear hq2 h0
   go_enter Tryz.func16,Tryz.ntmps16
   go_wp2_with fail
   go_quiet (fail)
   go_wp2_with fail
   obtain ⟨w1,hw1⟩:∃ w1,w1=w.drewN nq:=⟨_,rfl⟩
   have H1:TrAt g s p v w1:=by rw[hw1];exact H.out.drewN nq
   have hc1:=H1.cell
   have HH:=Lib.hid H1
   rw[←hw1]
   have HW:=Lib.hid hw1
   clear hw1 H1 hc
   go_quiet (first|exact Calls.quiet_of_same ((CK _).mono (by rintro e w' ⟨rfl,rfl⟩;exact ⟨rfl,rfl⟩)))
   go_wp2_with fail
   refine (CC _ (HH.out.drewN _)).mono ?_
   rintro e w1 ⟨rfl,k,rfl⟩
   go_wp2
   go_ret
   exact ⟨rfl,_,by rw[HW.out,World.drewN_drewN]⟩
set_option maxRecDepth 100000 in
theorem trTake_is (h:TrAt g s p v w):Calls Tryz.prog 18 #[.pointer (some ⟨g,0,none⟩)] w fun e w'=>e=.returned v∧w'=w.setCell ⟨g,2,none⟩ (.slice none 0 0):=by
 have hc:=h.cell
 have hz:=h.free
 clear h
 go_enter Tryz.func18,Tryz.ntmps18
 go_wp2
 go_ret
 exact ⟨rfl,rfl⟩
set_option maxRecDepth 100000 in
theorem trBelow_is (fro:Nat) (h:TrAt g s p v w) (hf:fro≤p) (hp:p≤s.size):Calls Tryz.prog 51 #[.pointer (some ⟨g,0,none⟩),.int .i64 (fro:Int)] w fun e w'=>e=.returned (.bool (!(sameRow s fro p)))∧∃ k,w'=w.drewN k:=by
 have CC:∀ W,Calls Tryz.prog 84 #[.string (s.extract fro p),.string ⟨#[10]⟩] W fun e w'=>e=.returned (.bool !(sameRow s fro p))∧w'=W:=fun W=>by
  have h1:=Tryz.strings_Contains_one (s.extract fro p) 10 W
  rw[lf_in hf hp] at h1
  exact h1
 have i1:(fro:Int)≤(p:Int):=by omega
 have i2:(p:Int)≤(s.size:Int):=by omega
 have hc:=h.cell
 clear h
 go_enter Tryz.func51,Tryz.ntmps51
 go_wp2_with fail
 go_quiet (first|exact Calls.quiet_of_same ((CC _).mono (by rintro e w' ⟨rfl,rfl⟩;exact ⟨rfl,rfl⟩)))
 go_wp2
 go_ret
 exact ⟨rfl,_,rfl⟩
end
end Go.Proofs.YthcmkpiajkbpnaaGreatDoor

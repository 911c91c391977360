/- Parts of the proof, put together from smaller texts (blanks that Lean does not want are struck). Conditions: those that each theorem writes out. -/
import Derived.Test.YtafhgbokdfhapaaGreatDoorZ00
import Derived.Test.YtafhgbokdfhapaaGreatDoorZ01
import Derived.Test.YtafhgbokdfhapaaGreatDoorZ06
import Derived.Test.YtafhgbokdfhapaaGreatDoorZ09
import Derived.Test.YtafhgbokdfhapaaGreatDoorZ10
import Derived.Test.YtafhgbokdfhapaaGreatDoorZ12
namespace Go.Proofs.YtafhgbokdfhapaaGreatDoor
open Go.RowKit
set_option maxRecDepth 100000 in
set_option maxHeartbeats 3200000 in
theorem plaiRead_t (T:List UInt8) (E:Int) (O:Bool) (C:Int) (s:ByteArray) (at' n:Int) (w:World) (hs:s.size≤100000) (h:PlaiZ s at' n true T E O C) :
  Calls Tryz.prog 61 #[.string s,.int .i64 at',.int .i64 n,.bool true] w fun e w'=>e=.returned (.tuple #[.string ⟨T.toArray⟩,.int .i64 E,.bool O,.int .i64 C])∧Below w.heap.size w w':=by
 have hs2:s.size≤1099511627776:=by omega
 cases hb0:begB s at' true with
 | false=>
  unfold PlaiZ at h
  rw[hb0,if_pos rfl] at h
  obtain ⟨rfl,rfl,rfl,rfl⟩:=h
  have HB:=Lib.hid hb0
  clear hb0
  go_enter Tryz.func61,Tryz.ntmps61
  go_wp2_with fail
  refine (plaiBegins_is false s E true _ hs2 HB.out).mono ?_
  rintro e9 w9 ⟨rfl,rfl⟩
  go_wp2
  refine bodyPost_ret (results_tmp4 rfl _ _ _) rfl ?_
  exact ⟨rfl,Below.refl _ _⟩
 | true=>
  obtain ⟨h0,h1⟩:=beg_in hb0
  obtain ⟨k0,rfl⟩:∃ k0:Nat,at'=(k0:Int):=⟨at'.toNat,by omega⟩
  unfold PlaiZ at h
  rw[hb0,if_neg (by decide),Int.toNat_natCast] at h
  rw[Int.toNat_natCast] at h1
  obtain ⟨E',rfl,h⟩:=h
  obtain ⟨e0,he0⟩:=ParN.ex s true k0 (by omega)
  have hG:=h e0 he0
  have q1:=he0.ge
  have q2:=he0.le
  have HB:=Lib.hid hb0
  have HE0:=Lib.hid he0
  have hpl:(pieceL s k0 e0).length=e0-k0:=piece_len q2
  have hx0:s.extract k0 e0=⟨(pieceL s k0 e0).toArray⟩:=piece_ext s k0 e0
  have hsl0:∀ W,(Instr.slice 9 (.string s) (some (.int .i64 (k0:Int))) (some (.int .i64 (e0:Int))) none).run Tryz.prog W=.ok (.string ⟨(pieceL s k0 e0).toArray⟩) W:=fun W=>by
   rw[run_slice_string W 9 s .i64 .i64 k0 e0 Tryz.underlying9 (by omega) (by omega) (by omega),←hx0]
   rfl
  obtain ⟨P0,hP0⟩:∃ P0,pieceL s k0 e0=P0:=⟨_,rfl⟩
  rw[hP0] at hsl0 hpl hG
  have HG:=Lib.hid hG
  have htot:U.tot [P0]≤e0+1:=by simp[U.tot];omega
  clear hb0 he0 hG hx0 hP0 hpl h h0
  go_enter Tryz.func61,Tryz.ntmps61
  go_wp2_with fail
  refine (plaiBegins_is true s (k0:Int) true _ hs2 HB.out).mono ?_
  rintro e9 w9 ⟨rfl,rfl⟩
  go_wp2_with fail
  refine (plaiPart_is e0 s k0 true _ hs2 h1 HE0.out).mono ?_
  rintro e9 w1 ⟨rfl,hb1⟩
  go_wp2
  go_loopw [12,13] (fun v12 v13 wr=>∃ (e:Nat) (R:List (List UInt8)) (one:Bool) (g:Nat),v12=.int .i64 (e:Int)∧e≤s.size∧OutT w.heap.size wr v13 R∧Below w.heap.size w wr∧U.tot R≤e+1∧s.size<e+g∧0<R.length∧Hid (one=decide (R.length=1))∧Hid (PlaiG s n true T E' O C g e R one)) (fun v12 _ _=>s.size-(intOf v12).toNat)
  case atStart=>exact ⟨e0,[P0],true,s.size+1,rfl,q2,OutT_one w.heap.size w1 P0 hb1.size,hb1.alloc hb1.size _,htot,by omega,by simp,by show _=_;rfl,HG.out⟩
  case round=>
   obtain ⟨e,R,one,g,rfl,he,ho,hb,htt,hg,hR,HO,H⟩:=hrel
   obtain ⟨g,rfl⟩:∃ g',g=g'+1:=⟨g-1,by omega⟩
   obtain ⟨F,K,hN⟩:=NxS.ex s n (s.size+1) e (-1) (by omega)
   have hF:=hN.le he
   obtain ⟨E1,hS⟩:=StpN.ex s true F hF
   have hst:=H.out.step he hN hS
   have hE2:=hS.2.1
   have HN:=Lib.hid hN
   have HS:=Lib.hid hS
   have hRl:R.length≤e+1:=Nat.le_trans (tot_len R) htt
   clear hN hS HB HE0 HG hsl0 htot hb1 H
   rcases hst with ⟨hE,rT,rE,rO,rC⟩|⟨hFE,heF,k,rfl,hek,hc⟩
   ·obtain rfl:F=E1:=hE.symm
    obtain rfl:E'=e:=rE
    subst rO
    subst rC
    have RT:=Lib.hid rT.symm
    have hL:((R.length:Int)==1)=O:=by rw[HO.out,Bool.eq_iff_iff];simp;omega
    obtain ⟨gb,cp,rfl,_,_,_⟩:=ho.shape hR
    clear rT hE
    go_wp2_with fail
    refine (plaiNext_is F _ s _ n _ hs2 he HN.out).mono ?_
    rintro e9 w9 ⟨rfl,hb9⟩
    have hb3:=hb.trans (hb9.mono hb.size)
    have ho3:=ho.below hb9
    go_wp2_with fail
    refine (plaiStop_is _ s F true _ hs2 hF HS.out).mono ?_
    rintro e9 w8 ⟨rfl,hb8⟩
    have hb4:=hb3.trans (hb8.mono hb3.size)
    have ho4:=ho3.below hb8
    clear ho ho3 hb hb3 hb8 hb9
    go_wp2_with fail
    refine (foldFlow_is T _ R _ ho4.is (by omega) RT.out).mono ?_
    rintro e9 w7 ⟨rfl,hb7⟩
    go_wp2
    refine bodyPost_ret (results_tmp4 rfl _ _ _) rfl ?_
    exact ⟨rfl,hb4.trans (hb7.mono hb4.size)⟩
   ·have hc7:((E1:Int)==(F:Int))=false:=by simp;omega
    replace hc:=hc.resolve_left (fun h=>by cases h.1)
    obtain ⟨hn,q,hq,hFq,hG⟩:=hc
    have hq1:=hq.1
    have hq2:=hq.2.1
    have HQ:=Lib.hid hq
    have hpl:(pieceL s F q).length=q-F:=piece_len (by omega)
    have hx0:s.extract F q=⟨(pieceL s F q).toArray⟩:=piece_ext s F q
    have hsl0:∀ W,(Instr.slice 9 (.string s) (some (.int .i64 (F:Int))) (some (.int .i64 (q:Int))) none).run Tryz.prog W=.ok (.string ⟨(pieceL s F q).toArray⟩) W:=fun W=>by
     rw[run_slice_string W 9 s .i64 .i64 F q Tryz.underlying9 (by omega) (by omega) (by omega),←hx0]
     rfl
    obtain ⟨P0,hP0⟩:∃ P0,pieceL s F q=P0:=⟨_,rfl⟩
    rw[hP0] at hsl0 hpl hG
    have htt2:U.tot (R++(U.blanksL k++[P0]))≤q+1:=by
     rw[U.tot_append,U.tot_append,tot_blanks]
     simp only[U.tot]
     omega
    have hrl:(R++U.blanksL k).length≤1000000000:=by
     rw[List.length_append,U.blanksL,List.length_replicate]
     omega
    have hone:false=decide ((R++(U.blanksL k++[P0])).length=1):=by
     symm
     rw[decide_eq_false_iff_not]
     simp
     omega
    have hlp:0<(R++(U.blanksL k++[P0])).length:=by simp;omega
    have HTT:=Lib.hid htt2
    have HRL:=Lib.hid hrl
    have HG:=Lib.hid hG
    have HO2:=Lib.hid hone
    have HLP:=Lib.hid hlp
    have hkn:R.length+k≤1000000000:=by omega
    clear hq hx0 hP0 hpl hG htt2 hrl hone hlp htt HO hRl
    clear hn
    go_wp2_with fail
    refine (plaiNext_is F _ s _ n _ hs2 he HN.out).mono ?_
    rintro e9 w9 ⟨rfl,hb9⟩
    have hb3:=hb.trans (hb9.mono hb.size)
    have ho3:=ho.below hb9
    go_wp2_with fail
    refine (plaiStop_is _ s F true _ hs2 hF HS.out).mono ?_
    rintro e9 w8 ⟨rfl,hb8⟩
    have hb4:=hb3.trans (hb8.mono hb3.size)
    have ho4:=ho3.below hb8
    clear ho ho3 hb hb3 hb8 hb9
    go_wp2_with fail
    refine (plaiTrim_is q s F E1 _ hs2 hE2 HQ.out).mono ?_
    rintro e9 w7 ⟨rfl,rfl⟩
    go_wp2_with (at_builtin;first|(refine appendBlanks rfl _ _ rfl w.heap.size _ R k rfl rfl ho4 hR hkn hb4.size ?_;intro v2 w2 o2 g2;have hb5:=hb4.grown g2 hb4.size (fun k hk=>(ho4.lt k hk).1))|(refine appendOne w2 P0 rfl _ _ rfl w.heap.size w _ _ rfl rfl o2 hb5 HRL.out (Nat.le_refl _) ?_;intro v3 w3 o3 b3))
    rw[List.append_assoc] at o3
    go_roundw
    case rel=>exact ⟨q,R++(U.blanksL k++[P0]),false,g,rfl,by omega,o3,b3,HTT.out,by omega,HLP.out,HO2,HG⟩
    case measure=>simp[intOf];omega
set_option maxRecDepth 100000 in
set_option maxHeartbeats 3200000 in
theorem plaiRead_f (T:List UInt8) (E:Int) (O:Bool) (C:Int) (s:ByteArray) (at' n:Int) (w:World) (hs:s.size≤100000) (h:PlaiZ s at' n false T E O C) :
  Calls Tryz.prog 61 #[.string s,.int .i64 at',.int .i64 n,.bool false] w fun e w'=>e=.returned (.tuple #[.string ⟨T.toArray⟩,.int .i64 E,.bool O,.int .i64 C])∧Below w.heap.size w w':=by
 have hs2:s.size≤1099511627776:=by omega
 cases hb0:begB s at' false with
 | false=>
  unfold PlaiZ at h
  rw[hb0,if_pos rfl] at h
  obtain ⟨rfl,rfl,rfl,rfl⟩:=h
  have HB:=Lib.hid hb0
  clear hb0
  go_enter Tryz.func61,Tryz.ntmps61
  go_wp2_with fail
  refine (plaiBegins_is false s E false _ hs2 HB.out).mono ?_
  rintro e9 w9 ⟨rfl,rfl⟩
  go_wp2
  refine bodyPost_ret (results_tmp4 rfl _ _ _) rfl ?_
  exact ⟨rfl,Below.refl _ _⟩
 | true=>
  obtain ⟨h0,h1⟩:=beg_in hb0
  obtain ⟨k0,rfl⟩:∃ k0:Nat,at'=(k0:Int):=⟨at'.toNat,by omega⟩
  unfold PlaiZ at h
  rw[hb0,if_neg (by decide),Int.toNat_natCast] at h
  rw[Int.toNat_natCast] at h1
  obtain ⟨E',rfl,h⟩:=h
  obtain ⟨e0,he0⟩:=ParN.ex s false k0 (by omega)
  have hG:=h e0 he0
  have q1:=he0.ge
  have q2:=he0.le
  have HB:=Lib.hid hb0
  have HE0:=Lib.hid he0
  have hpl:(pieceL s k0 e0).length=e0-k0:=piece_len q2
  have hx0:s.extract k0 e0=⟨(pieceL s k0 e0).toArray⟩:=piece_ext s k0 e0
  have hsl0:∀ W,(Instr.slice 9 (.string s) (some (.int .i64 (k0:Int))) (some (.int .i64 (e0:Int))) none).run Tryz.prog W=.ok (.string ⟨(pieceL s k0 e0).toArray⟩) W:=fun W=>by
   rw[run_slice_string W 9 s .i64 .i64 k0 e0 Tryz.underlying9 (by omega) (by omega) (by omega),←hx0]
   rfl
  obtain ⟨P0,hP0⟩:∃ P0,pieceL s k0 e0=P0:=⟨_,rfl⟩
  rw[hP0] at hsl0 hpl hG
  have HG:=Lib.hid hG
  have htot:U.tot [P0]≤e0+1:=by simp[U.tot];omega
  clear hb0 he0 hG hx0 hP0 hpl h h0
  go_enter Tryz.func61,Tryz.ntmps61
  go_wp2_with fail
  refine (plaiBegins_is true s (k0:Int) false _ hs2 HB.out).mono ?_
  rintro e9 w9 ⟨rfl,rfl⟩
  go_wp2_with fail
  refine (plaiPart_is e0 s k0 false _ hs2 h1 HE0.out).mono ?_
  rintro e9 w1 ⟨rfl,hb1⟩
  go_wp2
  go_loopw [12,13] (fun v12 v13 wr=>∃ (e:Nat) (R:List (List UInt8)) (one:Bool) (g:Nat),v12=.int .i64 (e:Int)∧e≤s.size∧OutT w.heap.size wr v13 R∧Below w.heap.size w wr∧U.tot R≤e+1∧s.size<e+g∧0<R.length∧Hid (one=decide (R.length=1))∧Hid (PlaiG s n false T E' O C g e R one)) (fun v12 _ _=>s.size-(intOf v12).toNat)
  case atStart=>exact ⟨e0,[P0],true,s.size+1,rfl,q2,OutT_one w.heap.size w1 P0 hb1.size,hb1.alloc hb1.size _,htot,by omega,by simp,by show _=_;rfl,HG.out⟩
  case round=>
   obtain ⟨e,R,one,g,rfl,he,ho,hb,htt,hg,hR,HO,H⟩:=hrel
   obtain ⟨g,rfl⟩:∃ g',g=g'+1:=⟨g-1,by omega⟩
   obtain ⟨F,K,hN⟩:=NxS.ex s n (s.size+1) e (-1) (by omega)
   have hF:=hN.le he
   obtain ⟨E1,hS⟩:=StpN.ex s false F hF
   have hst:=H.out.step he hN hS
   have hE2:=hS.2.1
   have HN:=Lib.hid hN
   have HS:=Lib.hid hS
   have hRl:R.length≤e+1:=Nat.le_trans (tot_len R) htt
   clear hN hS HB HE0 HG hsl0 htot hb1 H
   rcases hst with ⟨hE,rT,rE,rO,rC⟩|⟨hFE,heF,k,rfl,hek,hc⟩
   ·obtain rfl:F=E1:=hE.symm
    obtain rfl:E'=e:=rE
    subst rO
    subst rC
    have RT:=Lib.hid rT.symm
    have hL:((R.length:Int)==1)=O:=by rw[HO.out,Bool.eq_iff_iff];simp;omega
    obtain ⟨gb,cp,rfl,_,_,_⟩:=ho.shape hR
    clear rT hE
    go_wp2_with fail
    refine (plaiNext_is F _ s _ n _ hs2 he HN.out).mono ?_
    rintro e9 w9 ⟨rfl,hb9⟩
    have hb3:=hb.trans (hb9.mono hb.size)
    have ho3:=ho.below hb9
    go_wp2_with fail
    refine (plaiStop_is _ s F false _ hs2 hF HS.out).mono ?_
    rintro e9 w8 ⟨rfl,hb8⟩
    have hb4:=hb3.trans (hb8.mono hb3.size)
    have ho4:=ho3.below hb8
    clear ho ho3 hb hb3 hb8 hb9
    go_wp2_with fail
    refine (foldFlow_is T _ R _ ho4.is (by omega) RT.out).mono ?_
    rintro e9 w7 ⟨rfl,hb7⟩
    go_wp2
    refine bodyPost_ret (results_tmp4 rfl _ _ _) rfl ?_
    exact ⟨rfl,hb4.trans (hb7.mono hb4.size)⟩
   ·have hc7:((E1:Int)==(F:Int))=false:=by simp;omega
    rcases hc with ⟨_,hl,h58,rT,rE,rO,rC⟩|hc
    ·subst rT
     obtain rfl:E'=E1:=rE
     subst rO
     subst rC
     have HC:=Lib.hid (show decide (E'<s.size∧byt s E'=58)=true from decide_eq_true ⟨hl,h58⟩)
     clear h58
     go_wp2_with fail
     refine (plaiNext_is F _ s _ n _ hs2 he HN.out).mono ?_
     rintro e9 w9 ⟨rfl,hb9⟩
     have hb3:=hb.trans (hb9.mono hb.size)
     have ho3:=ho.below hb9
     go_wp2_with fail
     refine (plaiStop_is _ s F false _ hs2 hF HS.out).mono ?_
     rintro e9 w8 ⟨rfl,hb8⟩
     have hb4:=hb3.trans (hb8.mono hb3.size)
     have ho4:=ho3.below hb8
     clear ho ho3 hb hb3 hb8 hb9
     go_wp2_with fail
     refine (colon_is true s E' _ HC.out).mono ?_
     rintro e9 w7 ⟨rfl,rfl⟩
     go_wp2
     refine bodyPost_ret (results_tmp4 rfl _ _ _) rfl ?_
     exact ⟨rfl,hb4⟩
    ·have _h:=hc
     obtain ⟨hn,q,hq,hFq,hG⟩:=hc
     have hq1:=hq.1
     have hq2:=hq.2.1
     have HQ:=Lib.hid hq
     have hpl:(pieceL s F q).length=q-F:=piece_len (by omega)
     have hx0:s.extract F q=⟨(pieceL s F q).toArray⟩:=piece_ext s F q
     have hsl0:∀ W,(Instr.slice 9 (.string s) (some (.int .i64 (F:Int))) (some (.int .i64 (q:Int))) none).run Tryz.prog W=.ok (.string ⟨(pieceL s F q).toArray⟩) W:=fun W=>by
      rw[run_slice_string W 9 s .i64 .i64 F q Tryz.underlying9 (by omega) (by omega) (by omega),←hx0]
      rfl
     obtain ⟨P0,hP0⟩:∃ P0,pieceL s F q=P0:=⟨_,rfl⟩
     rw[hP0] at hsl0 hpl hG
     have htt2:U.tot (R++(U.blanksL k++[P0]))≤q+1:=by
      rw[U.tot_append,U.tot_append,tot_blanks]
      simp only[U.tot]
      omega
     have hrl:(R++U.blanksL k).length≤1000000000:=by
      rw[List.length_append,U.blanksL,List.length_replicate]
      omega
     have hone:false=decide ((R++(U.blanksL k++[P0])).length=1):=by
      symm
      rw[decide_eq_false_iff_not]
      simp
      omega
     have hlp:0<(R++(U.blanksL k++[P0])).length:=by simp;omega
     have HTT:=Lib.hid htt2
     have HRL:=Lib.hid hrl
     have HG:=Lib.hid hG
     have HO2:=Lib.hid hone
     have HLP:=Lib.hid hlp
     have hkn:R.length+k≤1000000000:=by omega
     clear hq hx0 hP0 hpl hG htt2 hrl hone hlp htt HO hRl
     have HN58:=Lib.hid (show decide (E1<s.size∧byt s E1=58)=false from decide_eq_false fun hh=>hn ⟨rfl,hh⟩)
     clear hn
     go_wp2_with fail
     refine (plaiNext_is F _ s _ n _ hs2 he HN.out).mono ?_
     rintro e9 w9 ⟨rfl,hb9⟩
     have hb3:=hb.trans (hb9.mono hb.size)
     have ho3:=ho.below hb9
     go_wp2_with fail
     refine (plaiStop_is _ s F false _ hs2 hF HS.out).mono ?_
     rintro e9 w8 ⟨rfl,hb8⟩
     have hb4:=hb3.trans (hb8.mono hb3.size)
     have ho4:=ho3.below hb8
     clear ho ho3 hb hb3 hb8 hb9
     go_wp2_with fail
     refine (colon_is false s E1 _ HN58.out).mono ?_
     rintro e9 w7 ⟨rfl,rfl⟩
     go_wp2_with fail
     refine (plaiTrim_is q s F E1 _ hs2 hE2 HQ.out).mono ?_
     rintro e9 w7 ⟨rfl,rfl⟩
     go_wp2_with (at_builtin;first|(refine appendBlanks rfl _ _ rfl w.heap.size _ R k rfl rfl ho4 hR hkn hb4.size ?_;intro v2 w2 o2 g2;have hb5:=hb4.grown g2 hb4.size (fun k hk=>(ho4.lt k hk).1))|(refine appendOne w2 P0 rfl _ _ rfl w.heap.size w _ _ rfl rfl o2 hb5 HRL.out (Nat.le_refl _) ?_;intro v3 w3 o3 b3))
     rw[List.append_assoc] at o3
     go_roundw
     case rel=>exact ⟨q,R++(U.blanksL k++[P0]),false,g,rfl,by omega,o3,b3,HTT.out,by omega,HLP.out,HO2,HG⟩
     case measure=>simp[intOf];omega
theorem plaiRead_is (T:List UInt8) (E:Int) (O:Bool) (C:Int) (s:ByteArray) (at' n:Int) (fl:Bool) (w:World) (hs:s.size≤100000) (h:PlaiZ s at' n fl T E O C) :
  Calls Tryz.prog 61 #[.string s,.int .i64 at',.int .i64 n,.bool fl] w fun e w'=>e=.returned (.tuple #[.string ⟨T.toArray⟩,.int .i64 E,.bool O,.int .i64 C])∧Below w.heap.size w w':=by
 cases fl with
 | true=>exact plaiRead_t T E O C s at' n w hs h
 | false=>exact plaiRead_f T E O C s at' n w hs h
end Go.Proofs.YtafhgbokdfhapaaGreatDoor

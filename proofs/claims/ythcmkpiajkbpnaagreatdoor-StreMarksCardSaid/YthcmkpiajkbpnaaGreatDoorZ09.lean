/- Parts of the proof, put together from smaller texts (blanks that Lean does not want are struck). Conditions: those that each theorem writes out. -/
import Derived.BigQuiet
import Derived.Deep.DeepCutAuto
import Derived.Deep.LoopGhost
import Derived.Deep.RegionHeld3
import Derived.Deep.RegionLaw
import Derived.Great.BuildSlice
import Derived.Laws.AppendOwnNone
import Derived.Laws.Tables
import Derived.StillTailTactics
import Derived.Test.YthcmkpiajkbpnaaGreatDoorZ00
import Derived.Test.YthcmkpiajkbpnaaGreatDoorZ01
import Derived.Test.YthcmkpiajkbpnaaGreatDoorZ02
import Derived.Test.YthcmkpiajkbpnaaGreatDoorZ05
import Derived.Test.YthcmkpiajkbpnaaGreatDoorZ06
import Derived.Test.YthcmkpiajkbpnaaGreatDoorZ07
import Derived.Test.YthcmkpiajkbpnaaGreatDoorZ08
namespace Go.Proofs.YthcmkpiajkbpnaaGreatDoor
open Go.RowKit
theorem propClone_is (s:ByteArray) (w:World) (hs:s.size≤1099511627776) :
  Calls Tryz.prog 62 #[.string s] w fun e w'=>e=.returned (.string s)∧Below w.heap.size w w':=by
 go_enter Tryz.func62,Tryz.ntmps62
 go_wp2_with fail
 refine (Tryz.stringslite_Clone s _ (Nat.le_trans hs (by decide))).mono ?_
 rintro e w1 ⟨rfl,b1⟩
 go_wp2
 go_ret
 exact ⟨rfl,b1⟩
theorem propMarked_no (s:ByteArray) (at' m:Int) (w:World) (_hs:s.size≤1099511627776) (h:at'<0∨(s.size:Int)≤at'∨(byt s at'.toNat:Int)≠m) :
  Calls Tryz.prog 60 #[.string s,.int .i64 at',.int .u8 m] w fun e w'=>e=.returned (.tuple #[.string ⟨#[]⟩,.bool false])∧w=w':=by
 by_cases h1:at'<0
 ·go_enter Tryz.func60,Tryz.ntmps60
  go_wp2
  go_ret2
  exact ⟨rfl,rfl⟩
 by_cases h2:(s.size:Int)≤at'
 ·go_enter Tryz.func60,Tryz.ntmps60
  go_wp2
  go_ret2
  exact ⟨rfl,rfl⟩
 obtain ⟨p,rfl⟩:∃ p:Nat,at'=(p:Int):=⟨at'.toNat,by omega⟩
 have hp:p<s.size:=by omega
 have hi:=run_byt s p hp _ rfl
 rw[Int.toNat_natCast] at h
 obtain ⟨b,hb⟩:∃ b:Nat,b=byt s p:=⟨_,rfl⟩
 rw[←hb] at hi h
 have hb2:((b:Int)==m)=false:=by rw[beq_eq_false_iff_ne];omega
 have hb3:((b:Int) != m)=true:=by rw[bne,hb2];rfl
 clear h hb
 go_enter Tryz.func60,Tryz.ntmps60
 go_wp2
 go_ret2
 exact ⟨rfl,rfl⟩
theorem propMarked_yes (X:ByteArray) (s:ByteArray) (p m:Nat) (w:World) (hs:s.size≤1099511627776) (hp:p<s.size) (hm:byt s p=m) (hX:s.extract (p+1) (p+1+nmN s (p+1))=X) :
  Calls Tryz.prog 60 #[.string s,.int .i64 (p:Int),.int .u8 (m:Int)] w fun e w'=>e=.returned (.tuple #[.string X,.bool true])∧w=w':=by
 have hi:=run_byt s p hp _ rfl
 rw[hm] at hi
 have hl:=nm_le (s:=s) (k:=p+1) (by omega)
 have CN:=fun W=>Name_is (nmN s (p+1)) s ((p:Int)+1) W hs (by rw[show (p:Int)+1=((p+1:Nat):Int) by omega,nameAt_in];rfl)
 obtain ⟨n,hn2⟩:∃ n,nmN s (p+1)=n:=⟨_,rfl⟩
 rw[hn2] at hl CN hX
 obtain ⟨q,hq⟩:∃ q,p+1+n=q:=⟨_,rfl⟩
 rw[hq] at hX hl
 have e1:(p:Int)+1+(n:Int)=(q:Int):=by omega
 have hpq:(p:Int)+1≤(q:Int):=by omega
 have hqs:(q:Int)≤(s.size:Int):=by omega
 have hb2:((m:Int) != (m:Int))=false:=by simp
 clear hn2 hq hm
 go_enter Tryz.func60,Tryz.ntmps60
 go_wp2_with fail
 refine (CN _).mono ?_
 rintro e w1 ⟨rfl,rfl⟩
 go_wp2
 go_ret2
 exact ⟨rfl,rfl⟩
theorem propEnds_is (r:Bool) (s:ByteArray) (fl:Bool) (q:Nat) (w:World) (hs:s.size≤1099511627776) (h:fitB s fl q=r) :
  Calls Tryz.prog 63 #[.string s,.int .i64 (q:Int),.bool fl] w fun e w'=>e=.returned (.bool r)∧w=w':=by
 rcases fit_ways h with ⟨hE,rfl⟩|⟨hE,hqz,rfl,rfl⟩|⟨hE,hqz,rfl,hfl⟩
 ·have CE:=fun W=>Ends_is true s (q:Int) W hs hE
  clear hE h
  go_enter Tryz.func63,Tryz.ntmps63
  go_wp2_with fail
  refine (CE _).mono ?_
  rintro e w1 ⟨rfl,rfl⟩
  go_wp2
  go_ret
  exact ⟨rfl,rfl⟩
 ·have CE:=fun W=>Ends_is false s (q:Int) W hs hE
  clear hE h
  go_enter Tryz.func63,Tryz.ntmps63
  go_wp2_with fail
  refine (CE _).mono ?_
  rintro e w1 ⟨rfl,rfl⟩
  go_wp2
  go_ret
  exact ⟨rfl,rfl⟩
 ·have CE:=fun W=>Ends_is false s (q:Int) W hs hE
  have hj:=run_byt s q hqz _ rfl
  obtain ⟨b2,hb2⟩:∃ b:Nat,b=byt s q:=⟨_,rfl⟩
  rw[←hb2] at hj hfl
  have CF:=fun W=>Flow_is r (b2:Int) W hfl
  clear hE h hfl hb2
  go_enter Tryz.func63,Tryz.ntmps63
  go_wp2_with fail
  refine (CE _).mono ?_
  rintro e w1 ⟨rfl,rfl⟩
  go_wp2_with fail
  refine (CF _).mono ?_
  rintro e w1 ⟨rfl,rfl⟩
  go_wp2
  go_ret
  exact ⟨rfl,rfl⟩
theorem propSkip_is (p1:Nat) (s:ByteArray) (q:Nat) (w:World) (hs:s.size≤1099511627776) (hq:q≤s.size) (h:q+whN s q=p1) :
  Calls Tryz.prog 64 #[.string s,.int .i64 (q:Int)] w fun e w'=>e=.returned (.int .i64 (p1:Int))∧w=w':=by
 obtain ⟨g1,g2⟩:=wh_spec s s.size q (by omega)
 have g3:=wh_le hq
 rw[h] at g1 g2 g3
 have hqp:q≤p1:=by omega
 clear h
 go_enter Tryz.func64,Tryz.ntmps64
 go_wp2
 go_loop [1] (fun v=>∃ k:Nat,v=.int .i64 (k:Int)∧q≤k∧k≤p1) (fun v=>s.size-(intOf v).toNat)
 case atStart=>exact ⟨q,rfl,Nat.le_refl _,hqp⟩
 case round=>
  obtain ⟨k,rfl,k1,k2⟩:=hrel
  by_cases hk:k<p1
  ·have hw:=g1 k hk k1
   have hks:k<s.size:=by omega
   have hi:=run_byt s k hks _ rfl
   obtain ⟨b,hb⟩:∃ b:Nat,b=byt s k:=⟨_,rfl⟩
   rw[←hb] at hi hw
   have CW:=fun W=>White_is true (b:Int) W hw
   clear hw hb g1 g2
   go_wp2_with fail
   refine (CW _).mono ?_
   rintro e w1 ⟨rfl,rfl⟩
   go_wp2
   go_round
   case rel=>exact ⟨k+1,by go_num,by omega,by omega⟩
   case measure=>simp[intOf];omega
  ·obtain rfl:k=p1:=by omega
   by_cases hz:k<s.size
   ·have hw:U.white (byt s k:Int)=false:=g2.resolve_left (by omega)
    have hi:=run_byt s k hz _ rfl
    obtain ⟨b,hb⟩:∃ b:Nat,b=byt s k:=⟨_,rfl⟩
    rw[←hb] at hi hw
    have CW:=fun W=>White_is false (b:Int) W hw
    clear hw hb g1 g2
    go_wp2_with fail
    refine (CW _).mono ?_
    rintro e w1 ⟨rfl,rfl⟩
    go_wp2
    go_ret
    exact ⟨rfl,rfl⟩
   ·clear g1 g2
    go_wp2
    go_ret
    exact ⟨rfl,rfl⟩
theorem tg_zero {s:ByteArray} {k:Nat} (h:¬ (k<s.size∧byt s k=33)):tgN s k=0:=by
 unfold tgN
 by_cases hk:k<s.size
 ·obtain ⟨b,h1,h2⟩:=drop_byte s k hk
  rw[h1,U.tSize_cons,if_neg (fun hc=>h ⟨hk,h2.symm.trans hc⟩)]
 ·rw[List.eq_nil_of_length_eq_zero (l:=s.data.toList.drop k) (by rw[drop_len];omega)]
  rfl
theorem fit_none {s:ByteArray} {fl:Bool} {q:Nat} (h:fitB s fl q=true):¬ (q<s.size∧(byt s q=38∨byt s q=33)):=by
 rintro ⟨h1,h2⟩
 unfold fitB endsB at h
 rw[if_neg (by omega),Int.toNat_natCast] at h
 rcases h2 with e|e <;> rw[e] at h <;> cases fl <;> revert h <;> decide
theorem PZ.inv {s:ByteArray} {fl:Bool} {A T:List UInt8} {E:Nat} {C:Int} {p e:Nat} {a t:List UInt8} (h:PZ s fl A T E C p e a t) :
  (¬ (p<s.size∧(byt s p=38∨byt s p=33))∧A=a∧T=t∧E=e∧C=0) ∨
  (p<s.size∧byt s p=38∧(nmN s (p+1)=0∨a≠[])∧A=[]∧T=[]∧E=p∧C=5) ∨
  (p<s.size∧byt s p=33∧t≠[]∧A=[]∧T=[]∧E=p∧C=5) ∨
  (∃ q,p<s.size∧byt s p=38∧0<nmN s (p+1)∧a=[]∧q=p+1+nmN s (p+1)∧fitB s fl q=false∧A=[]∧T=[]∧E=q∧C=5) ∨
  (∃ q,p<s.size∧byt s p=33∧t=[]∧q=p+tgN s p∧fitB s fl q=false∧A=[]∧T=[]∧E=q∧C=5) ∨
  (∃ q,p<s.size∧byt s p=38∧0<nmN s (p+1)∧a=[]∧q=p+1+nmN s (p+1)∧fitB s fl q=true∧PZ s fl A T E C (q+whN s q) q (pieceL s (p+1) q) t) ∨
  (∃ q,p<s.size∧byt s p=33∧t=[]∧q=p+tgN s p∧fitB s fl q=true∧PZ s fl A T E C (q+whN s q) q a (pieceL s p q)):=by
 cases h with
 | none h1 h2 h3 h4 h5=>exact .inl ⟨h1,h2,h3,h4,h5⟩
 | anchor0 h1 h2 h3 h4 h5 h6 h7=>exact .inr (.inl ⟨h1,h2,h3,h4,h5,h6,h7⟩)
 | tag0 h1 h2 h3 h4 h5 h6 h7=>exact .inr (.inr (.inl ⟨h1,h2,h3,h4,h5,h6,h7⟩))
 | anchorX h1 h2 h3 h4 h5 h6 h7 h8 h9 h10=>exact .inr (.inr (.inr (.inl ⟨_,h1,h2,h3,h4,h5,h6,h7,h8,h9,h10⟩)))
 | tagX h1 h2 h3 h4 h5 h6 h7 h8 h9=>exact .inr (.inr (.inr (.inr (.inl ⟨_,h1,h2,h3,h4,h5,h6,h7,h8,h9⟩))))
 | anchorL h1 h2 h3 h4 h5 h6 h7 h8 h9 h10 h11=>
  refine .inr (.inr (.inr (.inr (.inr (.inl ⟨_,h1,h2,h3,h4,h5,h6,?_⟩)))))
  rw[h7,Nat.add_zero]
  exact .none (fit_none h6) h8 h9 h10 h11
 | tagL h1 h2 h3 h4 h5 h6 h7 h8 h9 h10=>
  refine .inr (.inr (.inr (.inr (.inr (.inr ⟨_,h1,h2,h3,h4,h5,?_⟩)))))
  rw[h6,Nat.add_zero]
  exact .none (fit_none h5) h7 h8 h9 h10
 | anchor h1 h2 h3 h4 h5 h6 h7 h8=>exact .inr (.inr (.inr (.inr (.inr (.inl ⟨_,h1,h2,h3,h4,h5,h6,h8⟩)))))
 | tag h1 h2 h3 h4 h5 h6 h7=>exact .inr (.inr (.inr (.inr (.inr (.inr ⟨_,h1,h2,h3,h4,h5,h7⟩)))))
theorem piece_size (s:ByteArray) (p q:Nat) (hq:q≤s.size):(s.extract p q).size≤s.size:=by
 rw[ByteArray.size_extract];omega
theorem piece_empty {s:ByteArray} {p q:Nat} (h:p<q) (hq:q≤s.size):(s.extract p q).toList.isEmpty=false:=list_ba_ne (pieceL_ne h hq) (piece_ext s p q)
set_option maxRecDepth 100000 in
set_option maxHeartbeats 6400000 in
theorem propRead_in (A T:List UInt8) (E:Nat) (C:Int) (s:ByteArray) (p0:Nat) (fl:Bool) (w:World) (hs:s.size≤1000000) (hZ:PZ s fl A T E C p0 p0 [] []) :
  Calls Tryz.prog 35 #[.string s,.int .i64 (p0:Int),.bool fl] w fun e w'=>e=.returned (.tuple #[.string ⟨A.toArray⟩,.string ⟨T.toArray⟩,.int .i64 (E:Int),.int .i64 C])∧Below w.heap.size w w':=by
 have hs2:s.size≤1099511627776:=by omega
 have HZ:=Lib.hid hZ
 clear hZ
 go_enter Tryz.func35,Tryz.ntmps35
 go_wp2
 go_loopw [10,11,12,13] (fun v10 v11 v12 v13 wr=>∃ (a t:List UInt8) (AB TB:ByteArray) (e p:Nat),v10=.string AB∧v11=.string TB∧v12=.int .i64 (p:Int)∧v13=.int .i64 (e:Int)∧Hid (AB=⟨a.toArray⟩)∧Hid (TB=⟨t.toArray⟩)∧AB.size≤s.size∧TB.size≤s.size∧Hid (PZ s fl A T E C p e a t)∧Below w.heap.size w wr) (fun _ _ v12 _ _=>s.size-(intOf v12).toNat)
 case atStart=>exact ⟨[],[],⟨#[]⟩,⟨#[]⟩,p0,p0,rfl,rfl,rfl,rfl,rfl,rfl,Nat.zero_le _,Nat.zero_le _,HZ,Below.refl _ _⟩
 case round=>
  obtain ⟨a,t,AB,TB,e0,p,rfl,rfl,rfl,rfl,HA,HT,zA,zT,H,hb⟩:=hrel
  clear HZ
  rcases H.out.inv with ⟨hn,rfl,rfl,rfl,rfl⟩|⟨hp,h38,h0,rfl,rfl,hEp,rfl⟩|⟨hp,h33,h0,rfl,rfl,hEp,rfl⟩|⟨q,hp,h38,hn,rfl,hq,hf,rfl,rfl,hEq,rfl⟩|⟨q,hp,h33,rfl,hq,hf,rfl,rfl,hEq,rfl⟩|⟨q,hp,h38,hn,rfl,hq,hf,hZ⟩|⟨q,hp,h33,rfl,hq,hf,hZ⟩
  ·have CM:=fun W=>propMarked_no s (p:Int) 38 W hs2 (by rw[Int.toNat_natCast];by_cases h1:p<s.size;exact .inr (.inr fun hc=>hn ⟨h1,.inl (by omega)⟩);exact .inr (.inl (by omega)))
   have CZ:=fun W=>handSize_is 0 s (p:Int) W hs2 (by rw[hSize_in];exact tg_zero fun hc=>hn ⟨hc.1,.inr hc.2⟩)
   have CA:=fun W=>propClone_is AB W (by omega)
   have CT:=fun W=>propClone_is TB W (by omega)
   clear hn H
   go_wp2_with fail
   refine (CM _).mono ?_
   rintro e w1 ⟨rfl,rfl⟩
   go_wp2_with fail
   refine (CZ _).mono ?_
   rintro e w2 ⟨rfl,b2⟩
   go_wp2_with fail
   refine (CA _).mono ?_
   rintro e w3 ⟨rfl,b3⟩
   go_wp2_with fail
   refine (CT _).mono ?_
   rintro e w4 ⟨rfl,b4⟩
   go_wp2
   refine bodyPost_ret (results_tmp4 rfl _ _ _) rfl ?_
   have d2:=hb.trans (b2.mono hb.size)
   have d3:=d2.trans (b3.mono d2.size)
   exact ⟨by rw[HA.out,HT.out];rfl,d3.trans (b4.mono d3.size)⟩
  ·obtain rfl:=hEp.symm
   have CZ:=fun W=>handSize_is 0 s (p:Int) W hs2 (by rw[hSize_in];exact tg_zero fun hc=>by rw[h38] at hc;exact absurd hc.2 (by decide))
   have hl:=nm_le (s:=s) (k:=p+1) (by omega)
   obtain ⟨X,hX⟩:∃ X,s.extract (p+1) (p+1+nmN s (p+1))=X:=⟨_,rfl⟩
   have CM:=fun W=>propMarked_yes X s p 38 W hs2 hp h38 hX
   by_cases hn0:nmN s (p+1)=0
   ·rw[hn0,Nat.add_zero] at hX
    have hXe:X=⟨#[]⟩:=by rw[←hX];exact (piece_ext s (p+1) (p+1)).trans (by rw[show pieceL s (p+1) (p+1)=[] from List.eq_nil_of_length_eq_zero (by unfold pieceL;simp)])
    subst hXe
    clear h0 hn0 hl h38 hX H HA HT
    go_wp2_with fail
    refine (CM _).mono ?_
    rintro e w1 ⟨rfl,rfl⟩
    go_wp2_with fail
    refine (CZ _).mono ?_
    rintro e w2 ⟨rfl,b2⟩
    go_wp2
    refine bodyPost_ret (results_tmp4 rfl _ _ _) rfl ?_
    exact ⟨rfl,hb.trans (b2.mono hb.size)⟩
   ·have hab:=list_ba_ne (h0.resolve_left hn0) HA.out
    have hxb:=piece_empty (s:=s) (p:=p+1) (q:=p+1+nmN s (p+1)) (by omega) (by omega)
    rw[hX] at hxb
    clear h0 hn0 hl h38 hX H HA HT
    go_wp2_with fail
    refine (CM _).mono ?_
    rintro e w1 ⟨rfl,rfl⟩
    go_wp2_with fail
    refine (CZ _).mono ?_
    rintro e w2 ⟨rfl,b2⟩
    go_wp2
    refine bodyPost_ret (results_tmp4 rfl _ _ _) rfl ?_
    exact ⟨rfl,hb.trans (b2.mono hb.size)⟩
  ·obtain rfl:=hEp.symm
   have CM:=fun W=>propMarked_no s (p:Int) 38 W hs2 (by rw[Int.toNat_natCast,h33];exact .inr (.inr (by decide)))
   have hn:=tg_pos hp h33
   have CZ:=fun W=>handSize_is (tgN s p) s (p:Int) W hs2 (by rw[hSize_in];rfl)
   have htb:=list_ba_ne h0 HT.out
   obtain ⟨n,hn2⟩:∃ n,tgN s p=n:=⟨_,rfl⟩
   rw[hn2] at hn CZ
   clear hn2 h33 h0 H HA HT
   go_wp2_with fail
   refine (CM _).mono ?_
   rintro e w1 ⟨rfl,rfl⟩
   go_wp2_with fail
   refine (CZ _).mono ?_
   rintro e w2 ⟨rfl,b2⟩
   go_wp2
   refine bodyPost_ret (results_tmp4 rfl _ _ _) rfl ?_
   exact ⟨rfl,hb.trans (b2.mono hb.size)⟩
  ·subst hEq
   have CZ:=fun W=>handSize_is 0 s (p:Int) W hs2 (by rw[hSize_in];exact tg_zero fun hc=>by rw[h38] at hc;exact absurd hc.2 (by decide))
   have hl:=nm_le (s:=s) (k:=p+1) (by omega)
   obtain ⟨X,hX⟩:∃ X,s.extract (p+1) (p+1+nmN s (p+1))=X:=⟨_,rfl⟩
   have CM:=fun W=>propMarked_yes X s p 38 W hs2 hp h38 hX
   have hxb:=piece_empty (s:=s) (p:=p+1) (q:=p+1+nmN s (p+1)) (by omega) (by omega)
   have hxz:X.size=nmN s (p+1):=by rw[←hX,ByteArray.size_extract];omega
   rw[hX] at hxb
   have CE:=fun W=>propEnds_is false s fl E W hs2 hf
   obtain rfl:AB=⟨#[]⟩:=HA.out
   have e1:(p:Int)+1+(X.size:Int)=(E:Int):=by omega
   have hxs:X.size≤s.size:=by omega
   clear hq hn hl h38 hX hf H HA HT hxz
   go_wp2_with fail
   refine (CM _).mono ?_
   rintro e w1 ⟨rfl,rfl⟩
   go_wp2_with fail
   refine (CZ _).mono ?_
   rintro e w2 ⟨rfl,b2⟩
   go_wp2_with fail
   refine (CE _).mono ?_
   rintro e w3 ⟨rfl,rfl⟩
   go_wp2
   refine bodyPost_ret (results_tmp4 rfl _ _ _) rfl ?_
   exact ⟨rfl,hb.trans (b2.mono hb.size)⟩
  ·subst hEq
   have CM:=fun W=>propMarked_no s (p:Int) 38 W hs2 (by rw[Int.toNat_natCast,h33];exact .inr (.inr (by decide)))
   have hn:=tg_pos hp h33
   have hl:=tg_le (s:=s) (k:=p) (by omega)
   have CZ:=fun W=>handSize_is (tgN s p) s (p:Int) W hs2 (by rw[hSize_in];rfl)
   have CE:=fun W=>propEnds_is false s fl E W hs2 hf
   obtain rfl:TB=⟨#[]⟩:=HT.out
   obtain ⟨n,hn2⟩:∃ n,tgN s p=n:=⟨_,rfl⟩
   rw[hn2] at hn CZ hq hl
   have e1:(p:Int)+(n:Int)=(E:Int):=by omega
   have hpq:(p:Int)≤(E:Int):=by omega
   have hqs:(E:Int)≤(s.size:Int):=by omega
   clear hn2 h33 hq hf H HA HT
   go_wp2_with fail
   refine (CM _).mono ?_
   rintro e w1 ⟨rfl,rfl⟩
   go_wp2_with fail
   refine (CZ _).mono ?_
   rintro e w2 ⟨rfl,b2⟩
   go_wp2_with fail
   refine (CE _).mono ?_
   rintro e w3 ⟨rfl,rfl⟩
   go_wp2
   refine bodyPost_ret (results_tmp4 rfl _ _ _) rfl ?_
   exact ⟨rfl,hb.trans (b2.mono hb.size)⟩
  ·have CZ:=fun W=>handSize_is 0 s (p:Int) W hs2 (by rw[hSize_in];exact tg_zero fun hc=>by rw[h38] at hc;exact absurd hc.2 (by decide))
   have hl:=nm_le (s:=s) (k:=p+1) (by omega)
   have hX0:=piece_ext s (p+1) (p+1+nmN s (p+1))
   rw[←hq] at hX0
   obtain ⟨X,hX⟩:∃ X,s.extract (p+1) (p+1+nmN s (p+1))=X:=⟨_,rfl⟩
   have CM:=fun W=>propMarked_yes X s p 38 W hs2 hp h38 hX
   have hxb:=piece_empty (s:=s) (p:=p+1) (q:=p+1+nmN s (p+1)) (by omega) (by omega)
   have hxz:X.size=nmN s (p+1):=by rw[←hX,ByteArray.size_extract];omega
   rw[hX] at hxb
   rw[←hq] at hX
   rw[hX] at hX0
   have HX:=Lib.hid hX0
   have CE:=fun W=>propEnds_is true s fl q W hs2 hf
   have hqs2:q≤s.size:=by omega
   have hwl:=wh_le (s:=s) (k:=q) hqs2
   obtain ⟨p1,hp1⟩:∃ p1,q+whN s q=p1:=⟨_,rfl⟩
   have CW:=fun W=>propSkip_is p1 s q W hs2 hqs2 hp1
   rw[hp1] at hZ hwl
   have HN:=Lib.hid hZ
   have hpp:p<p1:=by omega
   obtain rfl:AB=⟨#[]⟩:=HA.out
   have e1:(p:Int)+1+(X.size:Int)=(q:Int):=by omega
   have hxs:X.size≤s.size:=by omega
   clear hq hn hl h38 hX hf H HA hxz hp1 hZ hX0
   go_wp2_with fail
   refine (CM _).mono ?_
   rintro e w1 ⟨rfl,rfl⟩
   go_wp2_with fail
   refine (CZ _).mono ?_
   rintro e w2 ⟨rfl,b2⟩
   go_wp2_with fail
   refine (CE _).mono ?_
   rintro e w3 ⟨rfl,rfl⟩
   go_wp2_with fail
   refine (CW _).mono ?_
   rintro e w3 ⟨rfl,rfl⟩
   go_wp2
   go_roundw
   case rel=>exact ⟨_,t,X,TB,q,p1,rfl,rfl,rfl,rfl,HX,HT,hxs,zT,HN,hb.trans (b2.mono hb.size)⟩
   case measure=>simp[intOf];omega
  ·have CM:=fun W=>propMarked_no s (p:Int) 38 W hs2 (by rw[Int.toNat_natCast,h33];exact .inr (.inr (by decide)))
   have hn:=tg_pos hp h33
   have hl:=tg_le (s:=s) (k:=p) (by omega)
   have CZ:=fun W=>handSize_is (tgN s p) s (p:Int) W hs2 (by rw[hSize_in];rfl)
   have CE:=fun W=>propEnds_is true s fl q W hs2 hf
   obtain rfl:TB=⟨#[]⟩:=HT.out
   obtain ⟨n,hn2⟩:∃ n,tgN s p=n:=⟨_,rfl⟩
   rw[hn2] at hn CZ hq hl
   have e1:(p:Int)+(n:Int)=(q:Int):=by omega
   have hpq:(p:Int)≤(q:Int):=by omega
   have hqs:(q:Int)≤(s.size:Int):=by omega
   have hqs2:q≤s.size:=by omega
   have hwl:=wh_le (s:=s) (k:=q) hqs2
   have HX:=Lib.hid (piece_ext s p q)
   have hxs:=piece_size s p q hqs2
   obtain ⟨p1,hp1⟩:∃ p1,q+whN s q=p1:=⟨_,rfl⟩
   have CW:=fun W=>propSkip_is p1 s q W hs2 hqs2 hp1
   rw[hp1] at hZ hwl
   have HN:=Lib.hid hZ
   have hpp:p<p1:=by omega
   clear hn2 h33 hq hf H HT hp1 hZ hl
   go_wp2_with fail
   refine (CM _).mono ?_
   rintro e w1 ⟨rfl,rfl⟩
   go_wp2_with fail
   refine (CZ _).mono ?_
   rintro e w2 ⟨rfl,b2⟩
   go_wp2_with fail
   refine (CE _).mono ?_
   rintro e w3 ⟨rfl,rfl⟩
   go_wp2_with fail
   refine (CW _).mono ?_
   rintro e w3 ⟨rfl,rfl⟩
   go_wp2
   go_roundw
   case rel=>exact ⟨a,_,AB,_,q,p1,rfl,rfl,rfl,rfl,HA,HX,zA,hxs,HN,hb.trans (b2.mono hb.size)⟩
   case measure=>simp[intOf];omega
set_option maxHeartbeats 800000 in
theorem propRead_is (A T:List UInt8) (E C:Int) (s:ByteArray) (at':Int) (fl:Bool) (w:World) (hs:s.size≤1000000) (hZ:PropZ s at' fl A T E C) :
  Calls Tryz.prog 35 #[.string s,.int .i64 at',.bool fl] w fun e w'=>e=.returned (.tuple #[.string ⟨A.toArray⟩,.string ⟨T.toArray⟩,.int .i64 E,.int .i64 C])∧Below w.heap.size w w':=by
 rcases hZ with ⟨h0,E',rfl,hZ⟩|⟨h0,rfl,rfl,rfl,rfl⟩
 ·obtain ⟨k,rfl⟩:∃ k:Nat,at'=(k:Int):=⟨at'.toNat,by omega⟩
  exact propRead_in A T E' C s k fl w hs hZ
 ·have CM:=fun W=>propMarked_no s E 38 W (by omega) (.inl h0)
  have CZ:=fun W=>handSize_is 0 s E W (by omega) (hSize_out s E (.inl h0))
  have CA:=fun W=>propClone_is ⟨#[]⟩ W (by decide)
  go_enter Tryz.func35,Tryz.ntmps35
  go_wp2
  go_loopw [10,11,12,13] (fun v10 v11 v12 v13 wr=>v10=.string ⟨#[]⟩∧v11=.string ⟨#[]⟩∧v12=.int .i64 E∧v13=.int .i64 E∧Below w.heap.size w wr) (fun _ _ _ _ _=>0)
  case atStart=>exact ⟨rfl,rfl,rfl,rfl,Below.refl _ _⟩
  case round=>
   obtain ⟨rfl,rfl,rfl,rfl,hb⟩:=hrel
   go_wp2_with fail
   refine (CM _).mono ?_
   rintro e w1 ⟨rfl,rfl⟩
   go_wp2_with fail
   refine (CZ _).mono ?_
   rintro e w2 ⟨rfl,b2⟩
   go_wp2_with fail
   refine (CA _).mono ?_
   rintro e w3 ⟨rfl,b3⟩
   go_wp2_with fail
   refine (CA _).mono ?_
   rintro e w4 ⟨rfl,b4⟩
   go_wp2
   refine bodyPost_ret (results_tmp4 rfl _ _ _) rfl ?_
   have d2:=hb.trans (b2.mono hb.size)
   have d3:=d2.trans (b3.mono d2.size)
   exact ⟨rfl,d3.trans (b4.mono d3.size)⟩
set_option maxHeartbeats 800000 in
theorem propAlias_is (A:List UInt8) (E C:Int) (s:ByteArray) (at':Int) (w:World) (hs:s.size≤1000000) (hZ:AliZ s at' A E C) :
  Calls Tryz.prog 68 #[.string s,.int .i64 at'] w fun e w'=>e=.returned (.tuple #[.string ⟨A.toArray⟩,.int .i64 E,.int .i64 C])∧Below w.heap.size w w':=by
 have hs2:s.size≤1099511627776:=by omega
 rcases hZ with ⟨h0,hA,hE,rfl⟩|⟨h0,rfl,rfl,rfl⟩
 ·unfold aliB at h0
  rw[decide_eq_true_eq] at h0
  obtain ⟨h1,hp,h42,hn⟩:=h0
  obtain ⟨p,rfl⟩:∃ p:Nat,at'=(p:Int):=⟨at'.toNat,by omega⟩
  rw[Int.toNat_natCast] at hp h42 hn hA hE
  have hl:=nm_le (s:=s) (k:=p+1) (by omega)
  obtain ⟨X,hX⟩:∃ X,s.extract (p+1) (p+1+nmN s (p+1))=X:=⟨_,rfl⟩
  have CM:=fun W=>propMarked_yes X s p 42 W hs2 hp h42 hX
  have hxb:=piece_empty (s:=s) (p:=p+1) (q:=p+1+nmN s (p+1)) (by omega) (by omega)
  have hxz:X.size=nmN s (p+1):=by rw[←hX,ByteArray.size_extract];omega
  have hX0:X=⟨A.toArray⟩:=by rw[←hX,hA];exact piece_ext s _ _
  rw[hX] at hxb
  have CA:=fun W=>propClone_is X W (by omega)
  have hxs:X.size≤s.size:=by omega
  have e1:E=(p:Int)+1+(X.size:Int):=by omega
  have HX:=Lib.hid hX0
  clear hX hX0 hl hn h42 hA hE hxz
  go_enter Tryz.func68,Tryz.ntmps68
  go_wp2_with fail
  refine (CM _).mono ?_
  rintro e w1 ⟨rfl,rfl⟩
  go_wp2_with fail
  refine (CA _).mono ?_
  rintro e w3 ⟨rfl,b3⟩
  go_wp2
  refine bodyPost_ret (prop_ret3 rfl _ _ _) rfl ?_
  exact ⟨by rw[←HX.out,e1];rfl,b3⟩
 ·by_cases h42:0≤E∧E.toNat<s.size∧byt s E.toNat=42
  ·obtain ⟨h1,hp,h42⟩:=h42
   obtain ⟨p,rfl⟩:∃ p:Nat,E=(p:Int):=⟨E.toNat,by omega⟩
   rw[Int.toNat_natCast] at hp h42
   have hn:nmN s (p+1)=0:=by
    unfold aliB at h0
    rw[decide_eq_false_iff_not,Int.toNat_natCast] at h0
    omega
   have hX:s.extract (p+1) (p+1+nmN s (p+1))=⟨#[]⟩:=by rw[hn];exact (piece_ext s (p+1) (p+1)).trans (by rw[show pieceL s (p+1) (p+1)=[] from List.eq_nil_of_length_eq_zero (by unfold pieceL;simp)])
   have CM:=fun W=>propMarked_yes ⟨#[]⟩ s p 42 W hs2 hp h42 hX
   clear hX hn h0 h42
   go_enter Tryz.func68,Tryz.ntmps68
   go_wp2_with fail
   refine (CM _).mono ?_
   rintro e w1 ⟨rfl,rfl⟩
   go_wp2
   refine bodyPost_ret (prop_ret3 rfl _ _ _) rfl ?_
   exact ⟨rfl,Below.refl _ _⟩
  ·have CM:=fun W=>propMarked_no s E 42 W hs2 (by
    by_cases h1:E<0
    ·exact .inl h1
    ·by_cases h2:E.toNat<s.size
     ·exact .inr (.inr fun hc=>h42 ⟨by omega,h2,by omega⟩)
     ·exact .inr (.inl (by omega)))
   clear h0 h42
   go_enter Tryz.func68,Tryz.ntmps68
   go_wp2_with fail
   refine (CM _).mono ?_
   rintro e w1 ⟨rfl,rfl⟩
   go_wp2
   refine bodyPost_ret (prop_ret3 rfl _ _ _) rfl ?_
   exact ⟨rfl,Below.refl _ _⟩
end Go.Proofs.YthcmkpiajkbpnaaGreatDoor
namespace Go.Proofs.YthcmkpiajkbpnaaGreatDoor
open Go.RowKit
structure Keep (P:Nat→Prop) (w w':World):Prop where
 os:w'.os=w.os
 tape:w'.tape=w.tape
 output:w'.output=w.output
 size:w.heap.size≤w'.heap.size
 block:∀ k,P k→w'.heap[k]?=w.heap[k]?
theorem Keep.refl (P:Nat→Prop) (w:World):Keep P w w:=⟨rfl,rfl,rfl,Nat.le_refl _,fun _ _=>rfl⟩
theorem Keep.trans {P Q:Nat→Prop} {a b c:World} (h:Keep P a b) (k:Keep Q b c) (hQ:∀ i,P i→Q i):Keep P a c:=
 ⟨k.os.trans h.os,k.tape.trans h.tape,k.output.trans h.output,Nat.le_trans h.size k.size,fun i hi=>(k.block i (hQ i hi)).trans (h.block i hi)⟩
theorem Keep.alloc {P:Nat→Prop} {a w:World} (h:Keep P a w) (hB:∀ k,P k→k<w.heap.size) (o:Obj):Keep P a (w.alloc o):=
 h.trans ⟨rfl,rfl,rfl,by simp,fun k hk=>Below.heap_alloc _ _ _ (hB k hk)⟩ (fun _ hi=>hi)
theorem Keep.setCell {P:Nat→Prop} {a w:World} (h:Keep P a w) {p:Addr} (hp:¬ P p.block) (u:Value):Keep P a (w.setCell p u):=
 h.trans ⟨rfl,rfl,rfl,by simp[World.setCell],fun k hk=>Below.heap_setCell _ _ _ _ (fun e=>hp (e ▸ hk))⟩ (fun _ hi=>hi)
theorem Keep.of {B:Nat} {P:Nat→Prop} {a b:World} (h:Below B a b) (hP:∀ k,P k→k<B):Keep P a b:=⟨h.os,h.tape,h.output,h.size,fun i hi=>h.block i (hP i hi)⟩
theorem Keep.below {B:Nat} {P:Nat→Prop} {a b:World} (h:Keep P a b) (hP:∀ k,k<B→P k):Below B a b:=⟨h.os,h.tape,h.output,h.size,fun i hi=>h.block i (hP i hi)⟩
def Lx (g B:Nat):Nat→Prop:=fun k=>k<B∧k≠g
def Nw (a b:Nat):Nat→Prop:=fun k=>a≤k∧k<b
end Go.Proofs.YthcmkpiajkbpnaaGreatDoor
namespace Go.Proofs.YthcmkpiajkbpnaaGreatDoor
open Go.RowKit
theorem noLF_cons {b:UInt8} {l:List UInt8} {k:Nat} (hb:b≠10) (h:∀ x∈l.take k,x≠10):∀ x∈(b :: l).take (k+1),x≠10:=by
 intro x hx
 rw[List.take_succ_cons,List.mem_cons] at hx
 rcases hx with rfl|hx
 ·exact hb
 ·exact h x hx
theorem noLF_hx {b:UInt8} (h:U.hx b=true):b≠10:=by
 have:=U.hx_range h
 intro e;subst e;revert this;decide
theorem noLF_run (p:Int→Bool) (hp:p 10=false):∀ (l:List UInt8) (a:Nat),a≤2→∀ x∈l.take (U.tR p a l-U.pend a),x≠10:=by
 intro l
 induction l with
 | nil=>intro a _ x hx;simp at hx
 | cons b l ih=>
  intro a ha
  have h0:=ih 0 (by omega)
  rw[U.pend0,Nat.sub_zero] at h0
  have h1:=ih 1 (by omega)
  rw[U.pend1] at h1
  have h2:=ih 2 (by omega)
  rw[U.pend2] at h2
  match a,ha with
  | 0,_=>
   rw[U.tR_zero,U.pend0,Nat.sub_zero]
   split
   ·rename_i hpb
    have hb:b≠10:=fun e=>by subst e;rw[show ((10:UInt8).toNat:Int)=10 from rfl,hp] at hpb;cases hpb
    split
    ·intro x hx
     by_cases hz:U.tR p 2 l=0
     ·rw[hz] at hx;simp at hx
     ·rw[show U.tR p 2 l=U.tR p 2 l-1+1 by omega] at hx
      exact noLF_cons hb h2 x hx
    ·exact noLF_cons hb h0
   ·intro x hx;simp at hx
  | 1,_=>
   rw[U.tR_one,U.pend1]
   split
   ·rename_i hb
    rw[show U.tR p 0 l+3-2=U.tR p 0 l+1 by omega]
    exact noLF_cons (noLF_hx hb) h0
   ·intro x hx;simp at hx
  | 2,_=>
   rw[U.tR_two,U.pend2]
   split
   ·rename_i hb
    intro x hx
    by_cases hz:U.tR p 1 l≤1
    ·rw[show U.tR p 1 l-1=0 by omega] at hx;simp at hx
    ·rw[show U.tR p 1 l-1=U.tR p 1 l-2+1 by omega] at hx
     exact noLF_cons (noLF_hx hb) h1 x hx
   ·intro x hx;simp at hx
theorem noLF_run0 (p:Int→Bool) (hp:p 10=false) (l:List UInt8):∀ x∈l.take (U.tR p 0 l),x≠10:=by
 have:=noLF_run p hp l 0 (by omega)
 rwa [U.pend0,Nat.sub_zero] at this
theorem noLF_app {l:List UInt8} {a b:Nat} (h1:∀ x∈l.take a,x≠10) (h2:∀ x∈(l.drop a).take b,x≠10):∀ x∈l.take (a+b),x≠10:=by
 intro x hx
 rw[List.take_add,List.mem_append] at hx
 rcases hx with hx|hx
 ·exact h1 x hx
 ·exact h2 x hx
theorem noLF_head {l:List UInt8} {c:UInt8} (h:l.headD 0=c) (hc:c≠10):∀ x∈l.take 1,x≠10:=by
 cases l with
 | nil=>intro x hx;simp at hx
 | cons b l=>
  intro x hx
  rw[List.take_succ_cons,List.take_zero,List.mem_singleton] at hx
  subst hx
  exact fun e=>hc (by rw[←h];exact e)
theorem noLF_tag (l:List UInt8):∀ x∈l.take (U.tSize l),x≠10:=by
 cases l with
 | nil=>intro x hx;simp at hx
 | cons b l=>
  rw[U.tSize_cons]
  split
  ·rename_i hb
   have hb10:b≠10:=fun e=>by subst e;revert hb;decide
   split
   ·cases l with
    | nil=>rename_i h;exact absurd h (by decide)
    | cons c m=>
     rename_i h
     rw[U.tBrac_cons] at h ⊢
     split
     ·rename_i h2
      have hc:c≠10:=fun e=>by subst e;revert h2;intro h2;exact absurd h2.1 (by decide)
      refine noLF_cons hb10 (k:=U.tR U.uri 0 m+2) (noLF_cons hc (k:=U.tR U.uri 0 m+1) (noLF_app (noLF_run0 U.uri (by decide) m) (noLF_head h2.2.2 (by decide))))
     ·rename_i h2;rw[if_neg h2] at h;exact absurd h (by decide)
   ·rw[show (U.tHand l).1+(U.tHand l).2=((U.tHand l).1-1+(U.tHand l).2)+1 by have:=U.tHand_le l;omega]
    refine noLF_cons hb10 ?_
    unfold U.tHand
    split
    ·rename_i h
     rw[show U.tR U.wordc 0 l+2-1+U.tR U.sfx 0 (l.drop (U.tR U.wordc 0 l+1))=(U.tR U.wordc 0 l+1)+U.tR U.sfx 0 (l.drop (U.tR U.wordc 0 l+1)) by omega]
     exact noLF_app (noLF_app (noLF_run0 U.wordc (by decide) l) (noLF_head h.1 (by decide))) (noLF_run0 U.sfx (by decide) _)
    ·rw[show 1-1+U.tR U.sfx 0 l=U.tR U.sfx 0 l by omega]
     exact noLF_run0 U.sfx (by decide) l
  ·intro x hx;simp at hx
theorem noLF_name (l:List UInt8):∀ x∈l.take (U.nameL l),x≠10:=by
 induction l with
 | nil=>intro x hx;simp at hx
 | cons b l ih=>
  rw[U.nameL_cons]
  split
  ·rename_i hb
   exact noLF_cons (fun e=>by subst e;revert hb;decide) ih
  ·intro x hx;simp at hx
theorem noLF_white (l:List UInt8):∀ x∈l.take ((l.takeWhile fun b=>U.white (b.toNat:Int)).length),x≠10:=by
 induction l with
 | nil=>intro x hx;simp at hx
 | cons b l ih=>
  rw[List.takeWhile_cons]
  split
  ·rename_i hb
   rw[List.length_cons]
   exact noLF_cons (fun e=>by subst e;revert hb;decide) ih
  ·intro x hx;simp at hx
theorem sameRow_iff {s:ByteArray} {p q:Nat}:sameRow s p q=true↔∀ j,j<q→p≤j→byt s j≠10:=by unfold sameRow;rw[decide_eq_true_eq]
theorem row_self (s:ByteArray) (p:Nat):sameRow s p p=true:=sameRow_iff.2 fun j h1 h2=>by omega
theorem row_join {s:ByteArray} {a b c:Nat} (h1:a≤b) (h2:b≤c):sameRow s a c=(sameRow s a b&&sameRow s b c):=by
 rw[Bool.eq_iff_iff,Bool.and_eq_true,sameRow_iff,sameRow_iff,sameRow_iff]
 constructor
 ·intro h;exact ⟨fun j j1 j2=>h j (by omega) j2,fun j j1 j2=>h j j1 (by omega)⟩
 ·rintro ⟨g1,g2⟩ j j1 j2
  by_cases hj:j<b
  ·exact g1 j hj j2
  ·exact g2 j j1 (by omega)
theorem row_lf {s:ByteArray} {a j c:Nat} (h1:a≤j) (h2:j<c) (h:byt s j=10):sameRow s a c=false:=by
 cases hh:sameRow s a c with
 | false=>rfl
 | true=>exact absurd h (sameRow_iff.1 hh j h2 h1)
theorem row_step {s:ByteArray} {a c:Nat} (h2:a+1≤c) (h:byt s a≠10):sameRow s a c=sameRow s (a+1) c:=by
 have h1:sameRow s a (a+1)=true:=sameRow_iff.2 fun j j1 j2=>by
  have e:j=a:=by omega
  rw[e];exact h
 rw[row_join (Nat.le_succ a) h2,h1,Bool.true_and]
theorem row_list {s:ByteArray} {a k:Nat} (hk:k≤(s.data.toList.drop a).length) (h:∀ x∈(s.data.toList.drop a).take k,x≠10):sameRow s a (a+k)=true:=by
 rw[sameRow_iff]
 intro j j1 j2 hb
 rw[List.length_drop,←Lib.size_eq] at hk
 have hj:j<s.size:=by omega
 have hm:s.data.toList[j]'(by rw[←Lib.size_eq];exact hj)∈(s.data.toList.drop a).take k:=by
  rw[List.mem_iff_getElem]
  refine ⟨j-a,by rw[List.length_take,List.length_drop,←Lib.size_eq];omega,?_⟩
  rw[List.getElem_take,List.getElem_drop]
  congr 1
  omega
 refine h _ hm ?_
 have:byt s j=(s.data.toList[j]'(by rw[←Lib.size_eq];exact hj)).toNat:=by unfold byt;simp[ByteArray.get!,getElem!_pos,hj]
 rw[this] at hb
 exact UInt8.toNat_inj.1 hb
theorem row_name {s:ByteArray} {k:Nat}:sameRow s k (k+nmN s k)=true:=row_list (U.nameL_le _) (noLF_name _)
theorem row_tag {s:ByteArray} {k:Nat}:sameRow s k (k+tgN s k)=true:=row_list (U.tSize_le _) (noLF_tag _)
theorem row_wh {s:ByteArray} {k:Nat}:sameRow s k (k+whN s k)=true:=row_list (List.takeWhile_sublist _).length_le (noLF_white _)
theorem PZ.row {s:ByteArray} {fl:Bool} {A T:List UInt8} {E:Nat} {C:Int} {p e:Nat} {a t:List UInt8} (h:PZ s fl A T E C p e a t):C=0→∀ p0,p0≤e→e≤p→p≤s.size→sameRow s p0 e=true→sameRow s e p=true→sameRow s p0 E=true:=by
 induction h with
 | none h1 h2 h3 h4 h5=>intro _ p0 _ _ _ hr _;rw[h4];exact hr
 | anchor0 h1 h2 h3 h4 h5 h6 h7=>intro hC;rw[h7] at hC;cases hC
 | tag0 h1 h2 h3 h4 h5 h6 h7=>intro hC;rw[h7] at hC;cases hC
 | anchorX h1 h2 h3 h4 h5 h6 h7 h8 h9 h10=>intro hC;rw[h10] at hC;cases hC
 | tagX h1 h2 h3 h4 h5 h6 h7 h8 h9=>intro hC;rw[h9] at hC;cases hC
 | @anchorL p e a t q h1 h2 h3 h4 h5 h6 h7 h8 h9 h10 h11=>
  intro _ p0 g1 g2 _ hr1 hr2
  rw[h10,row_join g1 (by omega),row_join g2 (by omega:p≤q),hr1,hr2,row_step (by omega) (by rw[h2];decide),h5,row_name]
  rfl
 | @tagL p e a t q h1 h2 h3 h4 h5 h6 h7 h8 h9 h10=>
  intro _ p0 g1 g2 _ hr1 hr2
  rw[h9,row_join g1 (by omega),row_join g2 (by omega:p≤q),hr1,hr2,h4,row_tag]
  rfl
 | @anchor p e a t q h1 h2 h3 h4 h5 h6 h7 h8 ih=>
  intro hC p0 g1 g2 g3 hr1 hr2
  have:=nm_le (s:=s) (k:=p+1) (by omega)
  have:=wh_le (s:=s) (k:=q) (by omega)
  refine ih hC p0 (by omega) (by omega) (by omega) ?_ row_wh
  rw[row_join g1 (by omega:e≤q),row_join g2 (by omega:p≤q),hr1,hr2,row_step (by omega) (by rw[h2];decide),h5,row_name]
  rfl
 | @tag p e a t q h1 h2 h3 h4 h5 h6 h7 ih=>
  intro hC p0 g1 g2 g3 hr1 hr2
  have:=tg_le (s:=s) (k:=p) (by omega)
  have:=wh_le (s:=s) (k:=q) (by omega)
  refine ih hC p0 (by omega) (by omega) (by omega) ?_ row_wh
  rw[row_join g1 (by omega:e≤q),row_join g2 (by omega:p≤q),hr1,hr2,h4,row_tag]
  rfl
theorem PropZ.row {s:ByteArray} {fl:Bool} {A T:List UInt8} {E C:Int} {p:Nat} (h:PropZ s (p:Int) fl A T E C) (hC:C=0) (hp:p≤s.size):sameRow s p E.toNat=true:=by
 rcases h with ⟨_,E',rfl,hZ⟩|⟨h,_⟩
 ·rw[Int.toNat_natCast] at hZ ⊢
  exact hZ.row hC p (Nat.le_refl _) (Nat.le_refl _) hp (row_self s p) (row_self s p)
 ·omega
end Go.Proofs.YthcmkpiajkbpnaaGreatDoor
namespace Go.Proofs.YthcmkpiajkbpnaaGreatDoor
open Go.RowKit
theorem lf_in {s:ByteArray} {a b:Nat} (ha:a≤b) (hb:b≤s.size):decide (0≤Lib.indexByte (s.extract a b).data.toList 10)=!(sameRow s a b):=by
 have hl:(s.extract a b).data.toList=pieceL s a b:=by rw[piece_ext]
 have hlf:∀ j,j<b-a→byt s (a+j)=10→(pieceL s a b)[j]?=some 10:=fun j hj h=>by
  have hlen:j<(pieceL s a b).length:=by rw[piece_len hb];exact hj
  obtain ⟨e,he⟩:∃ e,(pieceL s a b)[j]?=some e:=⟨_,List.getElem?_eq_getElem hlen⟩
  have h2:=(piece_get s a b j e he).2
  rw[he]
  exact congrArg some (UInt8.toNat_inj.1 (by rw[←h2,h];rfl))
 rw[hl]
 have hge:=Lib.indexByte_ge (pieceL s a b) 10
 obtain ⟨i,hi⟩:∃ i,Lib.indexByte (pieceL s a b) 10=i:=⟨_,rfl⟩
 rw[hi] at hge ⊢
 by_cases h1:i=-1
 ·subst h1
  have hn:=Lib.indexByte_none hi
  have hr:sameRow s a b=true:=sameRow_iff.2 fun j j1 j2 h3=>hn (j-a) (hlf (j-a) (by omega) (by rw[show a+(j-a)=j by omega];exact h3))
  rw[hr]
  rfl
 ·obtain ⟨o,rfl⟩:∃ o:Nat,i=o:=⟨i.toNat,by omega⟩
  obtain ⟨h2,h3⟩:=Lib.indexByte_some hi
  obtain ⟨h4,h5⟩:=piece_get s a b o 10 h2
  rw[row_lf (s:=s) (a:=a) (j:=a+o) (c:=b) (by omega) (by omega) h5,decide_eq_true (by omega)]
  rfl
theorem src_coms {R:Nat→Prop} {w:World} {v:Value} {cs:Coms} (h:ComsR R w v cs):Src Tryz.prog 2 25 v cs.length (comV cs) w:=by
 obtain ⟨ao,cap,rfl,k1,k2,k3⟩:=h
 by_cases h0:0<cs.length
 ·obtain ⟨b,o,rfl,_,hc⟩:=k3 h0
  refine Src.ofSlice w Tryz.underlying25 _ cs.length cap (comV cs) (comV_length cs) (fun j u hu=>?_) (comV_one cs)
  have hj:j<cs.length*2:=by
   have:=(List.getElem?_eq_some_iff.1 hu).1
   rwa [comV_length] at this
  obtain ⟨c1,c2⟩:=hc (j / 2) (by omega)
  obtain ⟨g1,g2⟩:=comV_get cs (j / 2) (by omega)
  rw[Addr.add_lit,←hu]
  rcases Nat.mod_two_eq_zero_or_one j with hm|hm
  ·have ej:j=j / 2*2:=by omega
   rw[ej,g1,c1]
  ·have ej:j=j / 2*2+1:=by omega
   rw[ej,g2]
   rw[show o+(j / 2*2+1)=o+j / 2*2+1 by omega,c2]
 ·have hy:cs=[]:=List.eq_nil_of_length_eq_zero (by omega)
  subst hy
  cases ao with
  | none=>exact Src.ofNil w Tryz.underlying25 cap
  | some a=>exact Src.ofSlice w Tryz.underlying25 a 0 cap [] rfl (fun j u hu=>by simp at hu) (fun u hu=>by simp at hu)
theorem HasV.toComs {w:World} {v:Value} {cs:Coms} (h:HasV 2 w v cs.length (comV cs)):ComsR (fun k=>v.ownBlock=some k) w v cs:=by
 obtain ⟨ao,b,off,cap,rfl,hm,hc,_⟩:=h
 refine ⟨ao,cap,rfl,hc.le,hm,fun h0=>?_⟩
 have ha:=hc.addr (Nat.lt_of_lt_of_le h0 hc.le)
 refine ⟨b,off,ha,by rw[ha];rfl,fun j hj=>?_⟩
 obtain ⟨g1,g2⟩:=comV_get cs j hj
 exact ⟨hc.olds (j*2) _ g1,by have:=hc.olds (j*2+1) _ g2;rwa [←Nat.add_assoc] at this⟩
theorem appendH {ops:Array Oper} {rest:List Oper} {o:Oper} {a:Act} {Q:Exit→Act→World→Prop} {w:World} (hgd:o.guard=none) (s x:Operand)
  (ho:o.op=.call { callee:=.builtin .append,args:=#[s,x],argTypes:=#[25,25] })
  (R:Nat→Prop) (v v2:Value) (xs ys:Coms) (hs:a.eval s=v) (hx:a.eval x=v2) (hv:HasV 2 w v xs.length (comV xs)) (hv2:ComsR R w v2 ys) (hn:xs.length+ys.length≤1000000000)
  (h:∀ v' w',HasV 2 w' v' (xs++ys).length (comV (xs++ys))→w.grownBy w' v.ownBlock→(v'.ownBlock=v.ownBlock∨v'.ownBlock=some w.heap.size)→wpList Tryz.prog ops Q rest (a.put o.dst v') w'):wpList Tryz.prog ops Q (o :: rest) a w:=by
 obtain ⟨i0,hi,hz0,hz1,hz2⟩:=info_parts infoC
 refine wpList_plain hgd fun K hK=>?_
 obtain ⟨v',w',hrun,h1,h2,h3,_,_⟩:=run_append_has (P:=Tryz.prog) 25 25 o.type 36 i0 (.agg #[.string ByteArray.empty,.int .i64 0]) 2 24 Tryz.underlying25 hi hz0 hz1 hz2 rfl (by decide) w v xs.length (comV xs) hv v2 ys.length (comV ys) (src_coms hv2) (by unfold maxLen;omega) (by omega)
 unfold Oper.wp
 simp[execOp,ho,resolve,invoke,builtin,hs,hx,hrun,Result.andThen]
 refine hK _ _ (h v' w' ?_ h2 h3)
 rw[List.length_append,comV_append]
 exact h1
end Go.Proofs.YthcmkpiajkbpnaaGreatDoor

/- Parts of the proof, put together from smaller texts (blanks that Lean does not want are struck). Conditions: those that each theorem writes out. -/
import Derived.Lib.AppendStr
import Derived.Lib.ConvBytes
import Derived.Test.YtafhgbokdfhapaaGreatDoorZ00
import Derived.Test.YtafhgbokdfhapaaGreatDoorZ01
import Derived.Test.YtafhgbokdfhapaaGreatDoorZ06
import Derived.Test.YtafhgbokdfhapaaGreatDoorZ08
namespace Go.Proofs.YtafhgbokdfhapaaGreatDoor
open Go.RowKit
def endB (s:ByteArray) (fl:Bool) (k:Nat):Bool:=endsB s (k:Int)||(fl&&U.flow (byt s k:Int))
theorem plaiEnds_is (q:Bool) (s:ByteArray) (k:Nat) (x:Int) (fl:Bool) (w:World) (hs:s.size≤1099511627776) (hx:x=(k:Int)) (h:endB s fl k=q) :
  Calls Tryz.prog 154 #[.string s,.int .i64 x,.bool fl] w fun e w'=>e=.returned (.bool q)∧w=w':=by
 subst hx
 unfold endB at h
 cases he:endsB s (k:Int) with
 | true=>
  rw[he] at h
  obtain rfl:true=q:=by rw[←h];rfl
  have HE:=Lib.hid he
  clear h he
  go_enter Tryz.func154,Tryz.ntmps154
  go_wp2_with fail
  refine (Ends_is true s (k:Int) _ hs HE.out).mono ?_
  rintro e w' ⟨rfl,rfl⟩
  go_wp2
  go_ret
  exact ⟨rfl,rfl⟩
 | false=>
  have hk:k<s.size:=by
   refine Decidable.byContradiction fun hn=>?_
   rw[endsB_out s (k:Int) (.inr (by omega))] at he
   cases he
  have hi:=run_byt s k hk (k:Int) rfl
  rw[he] at h
  replace h:(fl&&U.flow (byt s k:Int))=q:=h
  obtain ⟨y,hy⟩:∃ y,byt s k=y:=⟨_,rfl⟩
  rw[hy] at hi h
  have HE:=Lib.hid he
  clear he hy
  cases fl with
  | false=>
   obtain rfl:false=q:=by rw[←h];rfl
   clear h
   go_enter Tryz.func154,Tryz.ntmps154
   go_wp2_with fail
   refine (Ends_is false s (k:Int) _ hs HE.out).mono ?_
   rintro e w' ⟨rfl,rfl⟩
   go_wp2
   go_ret
   exact ⟨rfl,rfl⟩
  | true=>
   have HF:=Lib.hid (show U.flow (y:Int)=q from h)
   clear h
   go_enter Tryz.func154,Tryz.ntmps154
   go_wp2_with fail
   refine (Ends_is false s (k:Int) _ hs HE.out).mono ?_
   rintro e w' ⟨rfl,rfl⟩
   go_wp2_with fail
   refine (Flow_is q _ _ HF.out).mono ?_
   rintro e w' ⟨rfl,rfl⟩
   go_wp2
   go_ret
   exact ⟨rfl,rfl⟩
theorem stop_58 {s:ByteArray} {fl:Bool} {p:Nat} (h:byt s p=58):stopB s fl p=endB s fl (p+1):=by
 unfold stopB endB
 rw[h]
 simp[show U.flow (58:Int)=false by decide]
theorem stop_35 {s:ByteArray} {fl:Bool} {p:Nat} (h:byt s p=35):stopB s fl p=(decide (0<p)&&U.white (byt s (p-1):Int)):=by
 unfold stopB
 rw[h]
 simp[show U.flow (35:Int)=false by decide]
theorem stop_10 {s:ByteArray} {fl:Bool} {p:Nat} (h:byt s p=10):stopB s fl p=true:=by
 unfold stopB
 rw[h]
 simp
theorem stop_any {s:ByteArray} {fl:Bool} {p:Nat} (h10:byt s p≠10) (h35:byt s p≠35) (h58:byt s p≠58):stopB s fl p=(fl&&U.flow (byt s p:Int)):=by
 unfold stopB
 simp[h10,h35,h58]
set_option maxHeartbeats 800000 in
theorem plaiStops_is (q:Bool) (s:ByteArray) (k r:Nat) (x:Int) (fl:Bool) (w:World) (hs:s.size≤1099511627776) (hk:k<s.size) (hx:x=(k:Int)) (hr:(byt s k<128∧r=byt s k)∨(128≤byt s k∧128≤r)) (h:stopB s fl k=q) :
  Calls Tryz.prog 156 #[.string s,.int .i64 x,.int .i32 (r:Int),.bool fl] w fun e w'=>e=.returned (.bool q)∧w=w':=by
 subst hx
 by_cases h10:r=10
 ·subst h10
  rw[stop_10 (by omega)] at h
  subst h
  clear hr
  go_enter Tryz.func156,Tryz.ntmps156
  go_wp2
  go_ret
  exact ⟨rfl,rfl⟩
 by_cases h35:r=35
 ·subst h35
  rw[stop_35 (by omega)] at h
  clear hr
  by_cases h0:0<k
  ·have hi:=run_byt s (k-1) (by omega) ((k:Int)-1) (by omega)
   rw[decide_eq_true h0,Bool.true_and] at h
   obtain ⟨y,hy⟩:∃ y,byt s (k-1)=y:=⟨_,rfl⟩
   rw[hy] at hi h
   have HW:=Lib.hid h
   clear h hy
   go_enter Tryz.func156,Tryz.ntmps156
   go_wp2_with fail
   refine (White_is q _ _ HW.out).mono ?_
   rintro e w' ⟨rfl,rfl⟩
   go_wp2
   go_ret
   exact ⟨rfl,rfl⟩
  ·rw[decide_eq_false h0] at h
   obtain rfl:false=q:=by rw[←h];rfl
   have d3:decide (0<k)=false:=decide_eq_false h0
   have d4:decide ((0:Int)<(k:Int))=false:=decide_eq_false (by omega)
   clear h
   go_enter Tryz.func156,Tryz.ntmps156
   go_wp2
   go_ret
   exact ⟨rfl,rfl⟩
 by_cases h58:r=58
 ·subst h58
  rw[stop_58 (by omega)] at h
  have HE:=Lib.hid h
  clear h hr
  go_enter Tryz.func156,Tryz.ntmps156
  go_wp2_with fail
  refine (plaiEnds_is q s (k+1) _ fl _ hs (by omega) HE.out).mono ?_
  rintro e w' ⟨rfl,rfl⟩
  go_wp2
  go_ret
  exact ⟨rfl,rfl⟩
 rw[stop_any (by omega) (by omega) (by omega)] at h
 have a10:((r:Int)==10)=false:=by simp;omega
 have a35:((r:Int)==35)=false:=by simp;omega
 have a58:((r:Int)==58)=false:=by simp;omega
 have hi:=run_byt s k hk (k:Int) rfl
 obtain ⟨y,hy⟩:∃ y,byt s k=y:=⟨_,rfl⟩
 rw[hy] at hi h
 clear hy hr h10 h35 h58
 cases fl with
 | false=>
  obtain rfl:false=q:=by rw[←h];rfl
  clear h
  go_enter Tryz.func156,Tryz.ntmps156
  go_wp2
  go_ret
  exact ⟨rfl,rfl⟩
 | true=>
  have HF:=Lib.hid (show U.flow (y:Int)=q from h)
  clear h
  go_enter Tryz.func156,Tryz.ntmps156
  go_wp2_with fail
  refine (Flow_is q _ _ HF.out).mono ?_
  rintro e w' ⟨rfl,rfl⟩
  go_wp2
  go_ret
  exact ⟨rfl,rfl⟩
theorem plaiTrim_is (e:Nat) (s:ByteArray) (a p:Nat) (w:World) (hs:s.size≤1099511627776) (hp:p≤s.size) (h:BakN s a p e) :
  Calls Tryz.prog 109 #[.string s,.int .i64 (a:Int),.int .i64 (p:Int)] w fun e' w'=>e'=.returned (.int .i64 (e:Int))∧w=w':=by
 have he1:=h.1
 have he2:=h.2.1
 have HK:=Lib.hid h
 clear h
 go_enter Tryz.func109,Tryz.ntmps109
 go_wp2
 go_loop [2] (fun v=>∃ k:Nat,v=.int .i64 (k:Int)∧e≤k∧k≤p) (fun v=>(intOf v).toNat-e)
 case atStart=>exact ⟨p,rfl,he2,Nat.le_refl _⟩
 case round=>
  obtain ⟨k,rfl,hk1,hk2⟩:=hrel
  by_cases hka:a<k
  ·have hi:=run_byt s (k-1) (by omega) ((k:Int)-1) (by omega)
   obtain ⟨y,hy⟩:∃ y,byt s (k-1)=y:=⟨_,rfl⟩
   rw[hy] at hi
   by_cases hke:k=e
   ·have hw:U.white (y:Int)=false:=by rw[←hy,hke];exact HK.out.2.2.2.resolve_left (by omega)
    have HW:=Lib.hid hw
    have HKE:=Lib.hid hke
    clear hy hw hke
    go_wp2_with fail
    refine (White_is false _ _ HW.out).mono ?_
    rintro e1 w1 ⟨rfl,rfl⟩
    go_wp2
    go_ret
    exact ⟨by show Ending.returned (.int .i64 (k:Int))=_;rw[HKE.out],rfl⟩
   ·have hw:U.white (y:Int)=true:=by rw[←hy];exact HK.out.2.2.1 (k-1) (by omega) (by omega)
    have HW:=Lib.hid hw
    clear hy hw
    go_wp2_with fail
    refine (White_is true _ _ HW.out).mono ?_
    rintro e1 w1 ⟨rfl,rfl⟩
    go_wp2
    go_round
    case rel=>exact ⟨k-1,by go_num,by omega,by omega⟩
    case measure=>simp[intOf];omega
  ·obtain rfl:k=e:=by omega
   go_wp2
   go_ret
   exact ⟨rfl,rfl⟩
set_option maxHeartbeats 800000 in
theorem plaiBegins_is (q:Bool) (s:ByteArray) (at':Int) (fl:Bool) (w:World) (hs:s.size≤1099511627776) (h:begB s at' fl=q) :
  Calls Tryz.prog 103 #[.string s,.int .i64 at',.bool fl] w fun e w'=>e=.returned (.bool q)∧w=w':=by
 unfold begB at h
 cases he:endsB s at' with
 | true=>
  rw[he] at h
  obtain rfl:false=q:=by rw[←h];rfl
  have HE:=Lib.hid he
  clear h he
  go_enter Tryz.func103,Tryz.ntmps103
  go_wp2_with fail
  refine (Ends_is true s at' _ hs HE.out).mono ?_
  rintro e w' ⟨rfl,rfl⟩
  go_wp2
  go_ret
  exact ⟨rfl,rfl⟩
 | false=>
  obtain ⟨k,rfl,hk⟩:∃ k:Nat,at'=(k:Int)∧k<s.size:=by
   have:¬ (at'<0∨(s.size:Int)≤at'):=fun hn=>by rw[endsB_out s at' hn] at he;cases he
   exact ⟨at'.toNat,by omega,by omega⟩
  rw[he,Int.toNat_natCast] at h
  have hi:=run_byt s k hk (k:Int) rfl
  obtain ⟨x,hx⟩:∃ x,byt s k=x:=⟨_,rfl⟩
  rw[hx] at h hi
  have HE:=Lib.hid he
  clear he hx
  by_cases hx3:x=45∨x=63∨x=58
  ·have hd:U.indic (x:Int)=true:=by rcases hx3 with rfl|rfl|rfl <;> decide
   rw[hd,decide_eq_true hx3] at h
   obtain ⟨z,hz⟩:∃ z,endB s fl (k+1)=z:=⟨_,rfl⟩
   have hzq:(!z)=q:=by
    rw[←h,←hz]
    unfold endB
    simp
   subst hzq
   have HZ:=Lib.hid hz
   clear h hd hz
   rcases hx3 with rfl|rfl|rfl
   all_goals
    go_enter Tryz.func103,Tryz.ntmps103
    go_wp2_with fail
    refine (Ends_is false s (k:Int) _ hs HE.out).mono ?_
    rintro e w' ⟨rfl,rfl⟩
    go_wp2_with fail
    refine (plaiEnds_is z s (k+1) _ fl _ hs (by omega) HZ.out).mono ?_
    rintro e w' ⟨rfl,rfl⟩
    go_wp2
    go_ret
    exact ⟨rfl,rfl⟩
  ·rw[decide_eq_false hx3] at h
   obtain ⟨z,hz⟩:∃ z,U.indic (x:Int)=z:=⟨_,rfl⟩
   rw[hz] at h
   have hzq:(!z)=q:=by rw[←h];simp
   subst hzq
   have HZ:=Lib.hid hz
   have a45:((x:Int)==45)=false:=by simp;omega
   have a63:((x:Int)==63)=false:=by simp;omega
   have a58:((x:Int)==58)=false:=by simp;omega
   clear h hz hx3
   go_enter Tryz.func103,Tryz.ntmps103
   go_wp2_with fail
   refine (Ends_is false s (k:Int) _ hs HE.out).mono ?_
   rintro e w' ⟨rfl,rfl⟩
   go_wp2_with fail
   refine (Indicator_is z _ _ HZ.out).mono ?_
   rintro e w' ⟨rfl,rfl⟩
   go_wp2
   go_ret
   exact ⟨rfl,rfl⟩
set_option maxHeartbeats 800000 in
theorem plaiStop_is (p:Nat) (s:ByteArray) (a:Nat) (fl:Bool) (w:World) (hs:s.size≤1099511627776) (ha:a≤s.size) (h:StpN s fl a p) :
  Calls Tryz.prog 106 #[.string s,.int .i64 (a:Int),.bool fl] w fun e' w'=>e'=.returned (.int .i64 (p:Int))∧Below w.heap.size w w':=by
 obtain ⟨T,hT⟩:∃ T,s.extract a s.size=T:=⟨_,rfl⟩
 have hTs:T.size=s.size-a:=by rw[←hT,ByteArray.size_extract];omega
 have hTb:∀ k,k<T.size→byt T k=byt s (a+k):=fun k hk=>by rw[←hT];exact byt_extract s a s.size k (by omega)
 have hb0:∀ pos,Below w.heap.size w (w.iter T pos):=fun pos=>(Below.refl _ _).alloc (Nat.le_refl _) _
 have hp1:=h.1
 have hp2:=h.2.1
 have H:=Lib.hid h
 have HB:=Lib.hid hTb
 clear h hTb
 go_enter Tryz.func106,Tryz.ntmps106
 go_wp2
 go_loopw [] (fun w'=>∃ k:Nat,w'=w.iter T k∧a+k≤p) (fun w'=>T.size-w'.iterPos w.heap.size)
 case atStart=>exact ⟨0,rfl,hp1⟩
 case round=>
  obtain ⟨k,rfl,hk⟩:=hrel
  by_cases hk2:k<T.size
  ·have hnx:∀ ty,(Instr.next (.pointer (some ⟨w.heap.size,0,none⟩)) true ty).run Tryz.prog (w.iter T k)=_:=fun ty=>run_next_any w T k ty hk2
   have hwd:=dec_pos T k
   have hle:=dec_le T k hk2
   have hsp:=dec_split T k hk2
   obtain ⟨x,hx⟩:∃ x:Nat,x=(Utf8.decode T k).1:=⟨_,rfl⟩
   obtain ⟨d,hdd⟩:∃ d:Nat,d=(Utf8.decode T k).2:=⟨_,rfl⟩
   rw[←hx,←hdd] at hnx hsp
   rw[←hdd] at hwd hle
   clear hx hdd
   have hr:(byt s (a+k)<128∧x=byt s (a+k))∨(128≤byt s (a+k)∧128≤x):=by
    rw[←HB.out k hk2]
    rcases hsp with ⟨h1,h2,_⟩|⟨h1,h2,_⟩
    ·exact .inl ⟨h1,h2⟩
    ·exact .inr ⟨h1,h2⟩
   have HR:=Lib.hid hr
   clear hr
   by_cases hkp:a+k=p
   ·have hst:stopB s fl (a+k)=true:=by rw[hkp];exact H.out.2.2.2.resolve_left (by omega)
    have HS:=Lib.hid hst
    have HKP:=Lib.hid hkp
    clear hst hsp hkp
    go_wp2_with fail
    refine (plaiStops_is true s (a+k) x _ fl _ hs (by omega) (by omega) HR.out HS.out).mono ?_
    rintro e w2 ⟨rfl,rfl⟩
    go_wp2
    go_ret
    exact ⟨by rw[←HKP.out];rfl,hb0 _⟩
   ·have hst:stopB s fl (a+k)=false:=H.out.2.2.1 (a+k) (by omega) (by omega)
    have hd:a+k+d≤p:=by
     refine Decidable.byContradiction fun hn=>?_
     rcases hsp with ⟨_,_,h3⟩|⟨_,_,h3⟩
     ·omega
     ·have h4:=h3 (p-a-k) (by omega)
      rw[HB.out _ (by omega),show a+(k+(p-a-k))=p by omega] at h4
      rcases H.out.2.2.2 with h5|h5
      ·omega
      ·rw[stop_high h4] at h5;cases h5
    have HS:=Lib.hid hst
    clear hst hsp hkp
    go_wp2_with fail
    refine (plaiStops_is false s (a+k) x _ fl _ hs (by omega) (by omega) HR.out HS.out).mono ?_
    rintro e w2 ⟨rfl,rfl⟩
    go_wp2
    go_roundw
    case rel=>exact ⟨k+d,rfl,by omega⟩
    case measure=>simp;omega
  ·have hnx:∀ ty,(Instr.next (.pointer (some ⟨w.heap.size,0,none⟩)) true ty).run Tryz.prog (w.iter T k)=_:=fun ty=>run_next_end w T k ty hk2
   obtain rfl:p=s.size:=by omega
   go_wp2
   go_ret
   exact ⟨rfl,hb0 k⟩
theorem plaiPart_is (e:Nat) (s:ByteArray) (a:Nat) (fl:Bool) (w:World) (hs:s.size≤1099511627776) (ha:a<s.size) (h:ParN s fl a e) :
  Calls Tryz.prog 104 #[.string s,.int .i64 (a:Int),.bool fl] w fun e' w'=>e'=.returned (.int .i64 (e:Int))∧Below w.heap.size w w':=by
 obtain ⟨p,hP,hK⟩:=h
 have hp2:=hP.2.1
 have HP:=Lib.hid hP
 have HK:=Lib.hid hK
 have d1:decide (s.size≤a)=false:=decide_eq_false (by omega)
 have d2:decide ((a:Int)<0)=false:=decide_eq_false (by omega)
 clear hP hK
 go_enter Tryz.func104,Tryz.ntmps104
 go_wp2_with fail
 refine (plaiStop_is p s a fl _ hs (by omega) HP.out).mono ?_
 rintro e1 w1 ⟨rfl,hb⟩
 go_wp2_with fail
 refine (plaiTrim_is e s a p _ hs hp2 HK.out).mono ?_
 rintro e1 w2 ⟨rfl,rfl⟩
 go_wp2
 go_ret
 exact ⟨rfl,hb⟩
theorem results_tmp2 {fn:Func} {t u:Tmp} (h:fn.results=#[.tmp t,.tmp u]) (tmps:Array Value) (P:Program) (w:World) :
  (results fn tmps).run P w=.ok (.tuple #[tmps.getD t undef,tmps.getD u undef]) w:=by
 simp[results,h,go_sem]
set_option maxHeartbeats 1600000 in
theorem plaiNext_is (F:Nat) (K:Int) (s:ByteArray) (e:Nat) (n:Int) (w:World) (hs:s.size≤1099511627776) (he:e≤s.size) (h:NxS s n e (-1) F K) :
  Calls Tryz.prog 105 #[.string s,.int .i64 (e:Int),.int .i64 n] w fun e' w'=>e'=.returned (.tuple #[.int .i64 (F:Int),.int .i64 K])∧Below w.heap.size w w':=by
 obtain ⟨T,hT⟩:∃ T,s.extract e s.size=T:=⟨_,rfl⟩
 have hTs:T.size=s.size-e:=by rw[←hT,ByteArray.size_extract];omega
 have hTb:∀ k,k<T.size→byt T k=byt s (e+k):=fun k hk=>by rw[←hT];exact byt_extract s e s.size k (by omega)
 have hb0:∀ pos,Below w.heap.size w (w.iter T pos):=fun pos=>(Below.refl _ _).alloc (Nat.le_refl _) _
 have H0:=Lib.hid h
 have HB:=Lib.hid hTb
 clear h hTb
 go_enter Tryz.func105,Tryz.ntmps105
 go_wp2
 go_loopw [7] (fun v7 w'=>∃ (k:Nat) (B:Int),v7=.int .i64 B∧w'=w.iter T k∧-1≤B∧B≤(k:Int)∧k≤T.size∧Hid (NxS s n (e+k) B F K)) (fun _ w'=>T.size-w'.iterPos w.heap.size)
 case atStart=>exact ⟨0,-1,rfl,rfl,by omega,by omega,Nat.zero_le _,H0.out⟩
 case round=>
  obtain ⟨k,B,rfl,rfl,hB0,hB1,hk,H⟩:=hrel
  by_cases hk2:k<T.size
  ·have hnx:∀ ty,(Instr.next (.pointer (some ⟨w.heap.size,0,none⟩)) true ty).run Tryz.prog (w.iter T k)=_:=fun ty=>run_next_any w T k ty hk2
   have hwd:=dec_pos T k
   have hle:=dec_le T k hk2
   have hsp:=dec_split T k hk2
   have hi:=run_byt s (e+k) (by omega) ((e:Int)+(k:Int)) (by omega)
   have hcl:clampN ((e:Int)+(k:Int)) s.size=e+k:=by
    rw[show (e:Int)+(k:Int)=((e+k:Nat):Int) by omega]
    exact clampN_self (e+k) _ (by omega)
   obtain ⟨x,hx⟩:∃ x:Nat,x=(Utf8.decode T k).1:=⟨_,rfl⟩
   obtain ⟨d,hdd⟩:∃ d:Nat,d=(Utf8.decode T k).2:=⟨_,rfl⟩
   rw[←hx,←hdd] at hnx hsp
   rw[←hdd] at hwd hle
   clear hx hdd
   obtain ⟨y,hy⟩:∃ y,byt s (e+k)=y:=⟨_,rfl⟩
   rw[hy] at hi
   rw[HB.out k hk2,hy] at hsp
   by_cases hy10:y=10
   ·obtain ⟨hx10,rfl⟩:x=10∧d=1:=by
     rcases hsp with ⟨h1,h2,h3⟩|⟨h1,_,_⟩
     ·exact ⟨by omega,h3⟩
     ·omega
    subst hx10
    have H2:=Lib.hid (H.out.lf_inv (by omega) (by rw[hy];exact hy10))
    clear hsp hy hy10
    go_wp2
    go_roundw
    case rel=>exact ⟨k+1,B+1,by go_num,rfl,by omega,by omega,by omega,H2.out⟩
    case measure=>simp;omega
   have a10:((x:Int)==10)=false:=by simp;omega
   cases hw:U.white (y:Int) with
   | true=>
    obtain rfl:d=1:=by
     rcases hsp with ⟨h1,h2,h3⟩|⟨h1,_,_⟩
     ·exact h3
     ·rw[white_high h1] at hw;cases hw
    have H2:=Lib.hid (H.out.wh_inv (by omega) (by rw[hy];exact hw))
    have HW:=Lib.hid hw
    clear hsp hy hy10 hw
    go_wp2_with fail
    refine (White_is true _ _ HW.out).mono ?_
    rintro e9 w2 ⟨rfl,rfl⟩
    go_wp2
    go_roundw
    case rel=>exact ⟨k+1,B,rfl,rfl,by omega,by omega,by omega,H2.out⟩
    case measure=>simp;omega
   | false=>
    have HW:=Lib.hid hw
    have hy10':byt s (e+k)≠10:=by rw[hy];exact hy10
    have hw':U.white (byt s (e+k):Int)=false:=by rw[hy];exact hw
    by_cases hB2:B<0
    ·obtain ⟨rfl,rfl⟩:=H.out.early_inv hy10' hw' hB2
     have d0:decide (0≤B)=false:=decide_eq_false (by omega)
     clear hsp hy hy10 hw hy10' hw'
     go_wp2_with fail
     refine (White_is false _ _ HW.out).mono ?_
     rintro e9 w2 ⟨rfl,rfl⟩
     go_wp2
     refine bodyPost_ret (results_tmp2 rfl _ _ _) rfl ?_
     exact ⟨rfl,hb0 _⟩
    ·obtain ⟨a,ha⟩:=RowB.ex s (e+k)
     obtain ⟨b,hb⟩:=RowE.ex s (e+k) (by omega)
     have hab:a≤b:=by have:=ha.1;have:=hb.1;omega
     obtain ⟨p,hp⟩:=FirN.ex s a b hab
     obtain ⟨i,hi2⟩:=InN.ex s a b hab
     have hin:=H.out.in_inv (by omega) hy10' hw' (by omega) ha hb hp hi2
     have HA:Hid (RowB s (clampN ((e:Int)+(k:Int)) s.size) a):=by rw[hcl];exact ha
     have HE:Hid (RowE s (clampN ((e:Int)+(k:Int)) s.size) b):=by rw[hcl];exact hb
     have HP:=Lib.hid hp
     have HI:=Lib.hid hi2
     obtain ⟨z,hz⟩:∃ z,kindN s a b p=z:=⟨_,rfl⟩
     have HZ:=Lib.hid hz
     rw[hz] at hin
     have d0:decide (0≤B)=true:=decide_eq_true (by omega)
     clear hsp hy hy10 hw hy10' hw' ha hb hp hi2 hz hcl
     by_cases hz5:z=5
     ·subst hz5
      by_cases hni:n<(i:Int)
      ·obtain ⟨_,_,rF,rfl⟩:=hin.resolve_right (by omega)
       have RF:=Lib.hid rF
       clear rF hin
       go_wp2_with fail
       refine (White_is false _ _ HW.out).mono ?_
       rintro e9 w2 ⟨rfl,rfl⟩
       go_wp2_with fail
       refine (rowsKind_is 5 a b p s ((e:Int)+(k:Int)) _ hs HA.out HE.out HP.out HZ.out).mono ?_
       rintro e9 w2 ⟨rfl,rfl⟩
       go_wp2_with fail
       refine (rowsIn_is a b i s ((e:Int)+(k:Int)) _ hs HA.out HE.out HI.out).mono ?_
       rintro e9 w2 ⟨rfl,rfl⟩
       go_wp2
       refine bodyPost_ret (results_tmp2 rfl _ _ _) rfl ?_
       exact ⟨by rw[RF.out];rfl,hb0 _⟩
      ·obtain ⟨_,rfl,rfl⟩:=hin.resolve_left (by omega)
       have d5:decide (n<(i:Int))=false:=decide_eq_false hni
       clear hin
       go_wp2_with fail
       refine (White_is false _ _ HW.out).mono ?_
       rintro e9 w2 ⟨rfl,rfl⟩
       go_wp2_with fail
       refine (rowsKind_is 5 a b p s ((e:Int)+(k:Int)) _ hs HA.out HE.out HP.out HZ.out).mono ?_
       rintro e9 w2 ⟨rfl,rfl⟩
       go_wp2_with fail
       refine (rowsIn_is a b i s ((e:Int)+(k:Int)) _ hs HA.out HE.out HI.out).mono ?_
       rintro e9 w2 ⟨rfl,rfl⟩
       go_wp2
       refine bodyPost_ret (results_tmp2 rfl _ _ _) rfl ?_
       exact ⟨rfl,hb0 _⟩
     ·obtain ⟨_,rfl,rfl⟩:=hin.resolve_left (by omega)
      have z5:(z==5)=false:=by simpa using hz5
      clear hin
      go_wp2_with fail
      refine (White_is false _ _ HW.out).mono ?_
      rintro e9 w2 ⟨rfl,rfl⟩
      go_wp2_with fail
      refine (rowsKind_is z a b p s ((e:Int)+(k:Int)) _ hs HA.out HE.out HP.out HZ.out).mono ?_
      rintro e9 w2 ⟨rfl,rfl⟩
      go_wp2
      refine bodyPost_ret (results_tmp2 rfl _ _ _) rfl ?_
      exact ⟨rfl,hb0 _⟩
  ·have hnx:∀ ty,(Instr.next (.pointer (some ⟨w.heap.size,0,none⟩)) true ty).run Tryz.prog (w.iter T k)=_:=fun ty=>run_next_end w T k ty hk2
   obtain ⟨rfl,rfl⟩:=H.out.end (by omega)
   go_wp2
   refine bodyPost_ret (results_tmp2 rfl _ _ _) rfl ?_
   exact ⟨rfl,hb0 k⟩
theorem colon_is (q:Bool) (s:ByteArray) (k:Nat) (w:World) (h:decide (k<s.size∧byt s k=58)=q) :
  Calls Tryz.prog 108 #[.string (s.extract k s.size),.string ⟨#[58]⟩] w fun e w'=>e=.returned (.bool q)∧w=w':=by
 have hq:Lib.hasPrefix (s.extract k s.size).data.toList [58]=q:=by
  rw[←h]
  have e:(s.extract k s.size).data.toList=s.data.toList.drop k:=by
   rw[Lib.extract_data,List.take_of_length_le]
   rw[List.length_drop,Lib.size_eq];exact Nat.le_refl _
  rw[e]
  by_cases hk:k<s.size
  ·obtain ⟨b,hd,hb⟩:=drop_byte s k hk
   rw[hd,←hb,Bool.eq_iff_iff,decide_eq_true_eq]
   unfold Lib.hasPrefix
   simp only[List.isPrefixOf,Bool.and_true,beq_iff_eq]
   refine ⟨fun h=>⟨hk,by rw[←h];rfl⟩,fun h=>?_⟩
   apply UInt8.toNat_inj.1
   rw[h.2];rfl
  ·rw[List.drop_eq_nil_of_le (by rw[←Lib.size_eq];omega),decide_eq_false (fun h=>hk h.1)]
   rfl
 refine (Tryz.strings_HasPrefix (s.extract k s.size) ⟨#[58]⟩ w).mono ?_
 rintro e w' ⟨rfl,rfl⟩
 exact ⟨by rw[←hq],rfl⟩
end Go.Proofs.YtafhgbokdfhapaaGreatDoor
namespace Go.Proofs.YtafhgbokdfhapaaGreatDoor
open Go.RowKit
structure ClassF (K:FuncId) (p:Int→Bool):Prop where
 enter:∀ args w,(callFunc K args).run Tryz.prog w=.ok (.enter K args) w
 says:∀ (c:Int) (w:World),Calls Tryz.prog K #[.int .u8 c] w fun e w'=>e=.returned (.bool (p c))∧w=w'
theorem ClassF.is {K:FuncId} {p:Int→Bool} (h:ClassF K p) (q:Bool) (c:Int) (w:World) (hq:p c=q):Calls Tryz.prog K #[.int .u8 c] w fun e w'=>e=.returned (.bool q)∧w=w':=by
 subst hq;exact h.says c w
end Go.Proofs.YtafhgbokdfhapaaGreatDoor
namespace Go.Proofs.YtafhgbokdfhapaaGreatDoor
open Go.RowKit
theorem drop_byt (s:ByteArray) (pos:Nat) (h:pos<s.size):s.data.toList.drop pos=s.data.toList[pos]'(by rw[←Lib.size_eq];exact h) :: s.data.toList.drop (pos+1):=List.drop_eq_getElem_cons _
theorem byt_get (s:ByteArray) (pos:Nat) (h:pos<s.size):byt s pos=(s.data.toList[pos]'(by rw[←Lib.size_eq];exact h)).toNat:=by
 unfold byt
 simp[ByteArray.get!,getElem!_pos,h]
theorem decode_ascii (s:ByteArray) (pos:Nat) (_h:pos<s.size) (ha:byt s pos<128):(Utf8.decode s pos)=(byt s pos,1):=by
 have:=one_eq s pos
 rw[oneA _ _ _ _ _ ha] at this
 unfold one at this
 split at this
 ·rename_i hb
  exfalso
  have:=congrArg Prod.snd this
  simp at this
 ·rw[←Lib.decodeL_drop];exact this
theorem decode13 (s:ByteArray) (pos:Nat) (h:pos<s.size) (hb:U.bad (s.data.toList.drop pos)=false) (hc:(Utf8.decode s pos).1<128):byt s pos=(Utf8.decode s pos).1∧(Utf8.decode s pos).2=1:=by
 have hn:¬ ((Lib.decodeL (s.data.toList.drop pos)).1=65533∧(Lib.decodeL (s.data.toList.drop pos)).2=1):=by
  intro x
  rw[(U.bad_iff _).2 x] at hb;cases hb
 have he:=Lib.encode_decode _ (drop_ne h) hn
 rw[Lib.decodeL_drop] at he
 have hlen:=congrArg List.length he
 have hw:=dec_pos s pos
 have hle:=dec_le s pos h
 unfold Lib.encodeRune at he hlen
 rw[Lib.encodeRuneZ_one (by omega) (by omega)] at he hlen
 rw[List.length_take,List.length_drop,←Lib.size_eq] at hlen
 simp at hlen
 have h1:(Utf8.decode s pos).2=1:=by omega
 refine ⟨?_,h1⟩
 rw[h1,drop_byt s pos h] at he
 simp at he
 rw[byt_get s pos h,Array.getElem_toList,←he]
 simp
 omega
end Go.Proofs.YtafhgbokdfhapaaGreatDoor
namespace Go.Proofs.YtafhgbokdfhapaaGreatDoor
open Go.RowKit
set_option maxHeartbeats 800000 in
theorem handValue_is (v:Int) (c:Nat) (w:World) (hc:c≤1114111) (h:U.cHexV c=v) :
  Calls Tryz.prog 180 #[.int .i32 (c:Int)] w fun e w'=>e=.returned (.int .i64 v)∧w=w':=by
 have H:=Lib.hid h
 clear h
 unfold U.cHexV at H
 rcases (show c<48∨(48≤c∧c≤57)∨(57<c∧c<65)∨(65≤c∧c≤70)∨(70<c∧c<97)∨(97≤c∧c≤102)∨102<c from by omega) with g|⟨g,g2⟩|⟨g,g2⟩|⟨g,g2⟩|⟨g,g2⟩|⟨g,g2⟩|g
 all_goals
  go_enter Tryz.func180,Tryz.ntmps180
  go_wp2
  go_ret
  refine ⟨congrArg (fun z:Int=>Ending.returned (.int .i64 z)) (?_:_=v),rfl⟩
  have H2:=H.out
  repeat' split at H2
  all_goals omega
set_option maxHeartbeats 800000 in
theorem handSuffixed_any (c:Int) (w:World) :
  Calls Tryz.prog 130 #[.int .u8 c] w fun e w'=>e=.returned (.bool (U.sfx c))∧w=w':=by
 cases hu:U.uri c with
 | false=>
  have F:=Lib.hid (show U.sfx c=false by unfold U.sfx;rw[hu];rfl)
  have HU:=Lib.hid hu
  clear hu
  go_enter Tryz.func130,Tryz.ntmps130
  go_wp2_with fail
  refine (Uri_is false c _ HU.out).mono ?_
  rintro e w1 ⟨rfl,rfl⟩
  go_wp2
  go_ret
  exact ⟨by rw[F.out];rfl,rfl⟩
 | true=>
  by_cases h33:c=33
  ·subst h33
   have F:=Lib.hid (show U.sfx 33=false by decide)
   have HU:=Lib.hid hu
   clear hu
   go_enter Tryz.func130,Tryz.ntmps130
   go_wp2_with fail
   refine (Uri_is true 33 _ HU.out).mono ?_
   rintro e w1 ⟨rfl,rfl⟩
   go_wp2
   go_ret
   exact ⟨by rw[F.out];rfl,rfl⟩
  ·have h33b:(c != 33)=true:=by simp[h33]
   have F:=Lib.hid (show U.sfx c=!(U.flow c) by unfold U.sfx;rw[hu,decide_eq_false h33];rfl)
   have HU:=Lib.hid hu
   clear hu h33
   go_enter Tryz.func130,Tryz.ntmps130
   go_wp2_with fail
   refine (Uri_is true c _ HU.out).mono ?_
   rintro e w1 ⟨rfl,rfl⟩
   go_wp2_with fail
   refine (Flow_any c _).mono ?_
   rintro e w1 ⟨rfl,rfl⟩
   go_wp2
   go_ret
   exact ⟨by rw[F.out];rfl,rfl⟩
theorem classUri:ClassF 128 U.uri:=⟨Tryz.call128,Uri_any⟩
theorem classWord:ClassF 129 U.wordc:=⟨Tryz.call129,Word_any⟩
theorem classSuffixed:ClassF 130 U.sfx:=⟨Tryz.call130,handSuffixed_any⟩
theorem decode_rune (s:ByteArray) (k:Nat):(Utf8.decode s k).1≤1114111:=by
 have h:=U.decodeL_scalar (s.data.toList.drop k)
 rw[Lib.decodeL_drop] at h
 unfold U.scalar at h
 rw[decide_eq_true_eq] at h
 omega
theorem decode_low (s:ByteArray) (k:Nat) (h:k<s.size):(byt s k<128∧(Utf8.decode s k).1=byt s k∧(Utf8.decode s k).2=1)∨(128≤byt s k∧128≤(Utf8.decode s k).1):=by
 by_cases ha:byt s k<128
 ·have:=decode_ascii s k h ha
  exact .inl ⟨ha,by rw[this],by rw[this]⟩
 ·refine .inr ⟨by omega,?_⟩
  cases hb:U.bad (s.data.toList.drop k) with
  | true=>rw[bad_width s k h hb];omega
  | false=>
   by_cases h1:(Utf8.decode s k).1<128
   ·have:=(decode13 s k h hb h1).1
    omega
   ·omega
set_option maxRecDepth 100000 in
set_option maxHeartbeats 1600000 in
theorem handRun_is {K:FuncId} {p:Int→Bool} (hK:ClassF K p) (hp:∀ c:Int,p c=true→c<128) (n:Nat) (s:ByteArray) (w:World) (hs:s.size≤1099511627776) (h:U.tR p 0 s.data.toList=n) :
  Calls Tryz.prog 127 #[.string s,.func (.func K) #[] #[]] w fun e w'=>e=.returned (.int .i64 (n:Int))∧Below w.heap.size w w':=by
 have HQ:=Lib.hid h
 have hC:=hK.enter
 have hb0:∀ pos,Below w.heap.size w (w.iter s pos):=fun pos=>(Below.refl _ _).alloc (Nat.le_refl _) _
 clear h
 go_enter Tryz.func127,Tryz.ntmps127
 go_wp2
 go_loopw [5,6] (fun e a w'=>∃ k en aw:Nat,e=.int .i64 (en:Int)∧a=.int .i64 (aw:Int)∧w'=w.iter s k∧k≤s.size∧aw≤2∧en+U.pend aw=k∧Hid (en+U.tR p aw (s.data.toList.drop k)=n)) (fun _ _ w'=>s.size-w'.iterPos w.heap.size)
 case atStart=>exact ⟨0,0,0,rfl,rfl,rfl,Nat.zero_le _,by omega,rfl,by show _=_;rw[List.drop_zero,HQ.out,Nat.zero_add]⟩
 case round=>
  obtain ⟨k,en,aw,rfl,rfl,rfl,hk,haw,hen,H⟩:=hrel
  by_cases hk2:k<s.size
  ·have hnx:∀ ty,(Instr.next (.pointer (some ⟨w.heap.size,0,none⟩)) true ty).run Tryz.prog (w.iter s k)=_:=fun ty=>run_next_any w s k ty hk2
   have hwd:=dec_pos s k
   have hle:=dec_le s k hk2
   have hxm:=decode_rune s k
   obtain ⟨b,hd,hb⟩:=drop_byte s k hk2
   have H2:=H.out
   rw[hd] at H2
   have hlow:=decode_low s k hk2
   obtain ⟨x,hx⟩:∃ x:Nat,x=(Utf8.decode s k).1:=⟨_,rfl⟩
   obtain ⟨d,hdd⟩:∃ d:Nat,d=(Utf8.decode s k).2:=⟨_,rfl⟩
   rw[←hx,←hdd] at hlow
   rw[←hx,←hdd] at hnx
   rw[←hdd] at hwd hle
   rw[←hx] at hxm
   have HXM:=Lib.hid hxm
   clear hx hdd hd H HQ hxm
   rcases hlow with ⟨hl,rfl,rfl⟩|⟨hl,hx128⟩
   ·rw[←hb] at hl hnx
    obtain ⟨x,hx⟩:∃ x:Nat,x=b.toNat:=⟨_,rfl⟩
    rw[←hx] at hl hnx
    clear HXM
    rcases U.three_of aw haw with rfl|rfl|rfl
    ·rw[U.tR_zero,←hx] at H2
     rw[U.pend0,Nat.add_zero] at hen
     subst hen
     cases hpx:p (x:Int) with
     | false=>
      rw[if_neg (by simp[hpx])] at H2
      have F:=Lib.hid H2
      have HP:=Lib.hid hpx
      clear H2 hpx hb hx
      go_wp2_with fail
      refine (hK.is false _ _ HP.out).mono ?_
      rintro e w1 ⟨rfl,rfl⟩
      go_wp2
      go_ret
      exact ⟨by rw[←F.out];rfl,hb0 _⟩
     | true=>
      rw[if_pos hpx] at H2
      have HP:=Lib.hid hpx
      by_cases h37:x=37
      ·rw[if_pos h37] at H2
       have F:=Lib.hid H2
       subst h37
       clear H2 hpx hb hx
       go_wp2_with fail
       refine (hK.is true _ _ HP.out).mono ?_
       rintro e w1 ⟨rfl,rfl⟩
       go_wp2
       go_roundw
       case rel=>exact ⟨en+1,en,2,rfl,rfl,rfl,by omega,Nat.le_refl _,rfl,F.out⟩
       case measure=>simp;omega
      ·rw[if_neg h37] at H2
       have h37b:((x:Int)==37)=false:=by simp;omega
       have F:=Lib.hid H2
       clear H2 hpx hb hx
       go_wp2_with fail
       refine (hK.is true _ _ HP.out).mono ?_
       rintro e w1 ⟨rfl,rfl⟩
       go_wp2
       go_roundw
       case rel=>exact ⟨en+1,en+1,0,by go_num,rfl,rfl,by omega,Nat.zero_le _,rfl,by show _=_;have:=F.out;omega⟩
       case measure=>simp;omega
    ·rw[U.pend1] at hen
     rw[U.tR_one] at H2
     obtain ⟨v,hv⟩:∃ v:Int,U.cHexV x=v:=⟨_,rfl⟩
     have hvr:=U.hexV_le x
     have hxi:=U.hx_iff b
     rw[←hx,hv] at hxi
     rw[hv] at hvr
     have HV:=Lib.hid hv
     by_cases hv0:0≤v
     ·rw[if_pos (hxi.2 hv0)] at H2
      have F:=Lib.hid H2
      clear H2 hxi hv hb hx
      go_wp2_with fail
      refine (handValue_is v x _ (by omega) HV.out).mono ?_
      rintro e w1 ⟨rfl,rfl⟩
      go_wp2
      go_roundw
      case rel=>exact ⟨k+1,k+1,0,by go_num,rfl,rfl,by omega,Nat.zero_le _,rfl,by show _=_;have:=F.out;omega⟩
      case measure=>simp;omega
     ·rw[if_neg (fun h=>hv0 (hxi.1 h))] at H2
      have F:=Lib.hid H2
      clear H2 hxi hv hb hx
      go_wp2_with fail
      refine (handValue_is v x _ (by omega) HV.out).mono ?_
      rintro e w1 ⟨rfl,rfl⟩
      go_wp2
      go_ret
      exact ⟨by rw[←F.out];rfl,hb0 _⟩
    ·rw[U.pend2] at hen
     rw[U.tR_two] at H2
     obtain ⟨v,hv⟩:∃ v:Int,U.cHexV x=v:=⟨_,rfl⟩
     have hvr:=U.hexV_le x
     have hxi:=U.hx_iff b
     rw[←hx,hv] at hxi
     rw[hv] at hvr
     have HV:=Lib.hid hv
     by_cases hv0:0≤v
     ·rw[if_pos (hxi.2 hv0)] at H2
      have F:=Lib.hid H2
      clear H2 hxi hv hb hx
      go_wp2_with fail
      refine (handValue_is v x _ (by omega) HV.out).mono ?_
      rintro e w1 ⟨rfl,rfl⟩
      go_wp2
      go_roundw
      case rel=>exact ⟨k+1,en,1,rfl,rfl,rfl,by omega,by omega,by rw[U.pend1];omega,F.out⟩
      case measure=>simp;omega
     ·rw[if_neg (fun h=>hv0 (hxi.1 h))] at H2
      have F:=Lib.hid H2
      clear H2 hxi hv hb hx
      go_wp2_with fail
      refine (handValue_is v x _ (by omega) HV.out).mono ?_
      rintro e w1 ⟨rfl,rfl⟩
      go_wp2
      go_ret
      exact ⟨by rw[←F.out];rfl,hb0 _⟩
   ·rw[←hb] at hl
    have hv:=U.hexV_great x hx128
    rcases U.three_of aw haw with rfl|rfl|rfl
    ·have hpb:¬ (p (b.toNat:Int)=true):=fun h=>by have:=hp _ h;omega
     rw[U.tR_zero,if_neg hpb] at H2
     have F:=Lib.hid H2
     clear H2 hpb hb hv
     go_wp2
     go_ret
     exact ⟨by rw[←F.out];rfl,hb0 _⟩
    ·have hxb:¬ (U.hx b=true):=fun h=>by have:=U.hx_range h;omega
     rw[U.tR_one,if_neg hxb] at H2
     have F:=Lib.hid H2
     have HV:=Lib.hid hv
     clear H2 hxb hb hv
     go_wp2_with fail
     refine (handValue_is (-1) x _ HXM.out HV.out).mono ?_
     rintro e w1 ⟨rfl,rfl⟩
     go_wp2
     go_ret
     exact ⟨by rw[←F.out];rfl,hb0 _⟩
    ·have hxb:¬ (U.hx b=true):=fun h=>by have:=U.hx_range h;omega
     rw[U.tR_two,if_neg hxb] at H2
     have F:=Lib.hid H2
     have HV:=Lib.hid hv
     clear H2 hxb hb hv
     go_wp2_with fail
     refine (handValue_is (-1) x _ HXM.out HV.out).mono ?_
     rintro e w1 ⟨rfl,rfl⟩
     go_wp2
     go_ret
     exact ⟨by rw[←F.out];rfl,hb0 _⟩
  ·have hnx:∀ ty,(Instr.next (.pointer (some ⟨w.heap.size,0,none⟩)) true ty).run Tryz.prog (w.iter s k)=_:=fun ty=>run_next_end w s k ty hk2
   have H2:=H.out
   rw[List.drop_eq_nil_of_le (by rw[←Lib.size_eq];omega),U.tR_nil] at H2
   have F:=Lib.hid (show en=n by omega)
   clear H2
   go_wp2
   go_ret
   exact ⟨by rw[←F.out];rfl,hb0 k⟩
end Go.Proofs.YtafhgbokdfhapaaGreatDoor

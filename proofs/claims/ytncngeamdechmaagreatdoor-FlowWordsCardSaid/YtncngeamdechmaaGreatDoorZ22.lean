/- Parts of the proof, put together from smaller texts (blanks that Lean does not want are struck). Conditions: those that each theorem writes out. -/
import Derived.Test.YtncngeamdechmaaGreatDoorZ19
namespace Go.Proofs.YtncngeamdechmaaGreatDoor
open Go.RowKit
attribute [local go_sem ↓] Go.wp_at_zero Go.wp_at_succ
set_option maxRecDepth 100000 in
set_option maxHeartbeats 6400000 in
theorem quotRow_34 (n:Int) (T:List UInt8) (E:Nat) (O:Bool) (C:Int) (R:List (List UInt8 × Bool)) (s:ByteArray) (fr:Nat) (w:World) (hs:s.size≤100000) (hf:fr≤s.size) (hEv:Env w) (h:QZ s 34 n T E O C fr false R [] []) :
  Calls Tryz.prog 66 #[.string s,.int .i64 (fr:Int),.int .i32 34] w fun e w'=>∃ x te by' c,e=.returned (.tuple #[.string ⟨x.toArray⟩,.int .i64 ((te:Nat):Int),.int .i32 by',.int .i64 c])∧RowA s 34 n T E O C R fr x te by' c∧Below w.heap.size w w':=by
 obtain ⟨S,hS⟩:∃ S,s.extract fr s.size=S:=⟨_,rfl⟩
 have hSs:S.size=s.size-fr:=by rw[←hS,ByteArray.size_extract];omega
 have hSb:∀ k,k<S.size→byt S k=byt s (fr+k):=fun k hk=>by rw[←hS];exact byt_extract s fr s.size k (by omega)
 have HL0:Hid (RowL s 34 n T E O C R (fr+0) fr []):=Lib.hid (.inl ⟨Nat.le_refl _,[],[],RowS.start s fr [],h⟩)
 have HB:=Lib.hid hSb
 have hbW:Below w.heap.size w w:=Below.refl _ _
 clear h hSb
 go_enter Tryz.func66,Tryz.ntmps66
 obtain ⟨B,hB⟩:∃ B,B=w.heap.size:=⟨_,rfl⟩
 have i0:=IsB.fresh w
 rw[←hB] at i0
 have hB0:w.heap.size≤B:=by rw[hB];exact Nat.le_refl _
 have hsz0:B<(w.alloc (.cells #[.pointer none,.slice none 0 0] 114)).heap.size:=by rw[hB];simp
 have hbX0:Below w.heap.size w (w.alloc (.cells #[.pointer none,.slice none 0 0] 114)):=hbW.alloc hbW.size _
 have HBB:=Lib.hid hB
 have hW1s0:(w.alloc (.cells #[.pointer none,.slice none 0 0] 114)).heap.size=B+1:=by rw[hB];simp
 go_wp2
 rw[←HBB.out]
 obtain ⟨W1,hW1⟩:∃ W1,W1=w.alloc (.cells #[.pointer none,.slice none 0 0] 114):=⟨_,rfl⟩
 rw[←hW1] at i0 hsz0 hbX0 hW1s0 ⊢
 clear hW1 hB
 go_loopw [11] (fun v11 wr=>∃ (k kept:Nat) (out:List UInt8),v11=.int .i64 (kept:Int)∧IsB B B out wr∧wr.heap[B+1]?=some (.stringIter S k)∧Below w.heap.size w wr∧B+1<wr.heap.size∧k≤S.size∧fr≤kept∧kept≤s.size∧out.length≤2*(kept-fr)∧Hid (RowL s 34 n T E O C R (fr+k) kept out)) (fun _ wr=>S.size-wr.iterPos (B+1))
 case atStart=>exact ⟨0,fr,[],rfl,Lib.IsBuilderF.alloc i0 _,by rw[←hW1s0];exact World.iter_heap _ _ _,hbX0.alloc hbX0.size _,by simp[World.iter,hW1s0],Nat.zero_le _,Nat.le_refl _,hf,Nat.zero_le _,HL0⟩
 case round=>
  obtain ⟨k,kept,out,rfl,hI,hit,hbw,hsz,hk,hk1,hk2,hol,H⟩:=hrel
  have hpos0:=iterPos_of hit
  by_cases hkS:k<S.size
  ·have hnx:∀ ty,(Instr.next (.pointer (some ⟨B+1,0,none⟩)) true ty).run Tryz.prog wr=_:=fun ty=>Lib.run_next_any_at wr (B+1) S k ty hit hkS
   have hwd:=dec_pos S k
   have hle:=dec_le S k hkS
   have hsp:=dec_split S k hkS
   have hby:=HB.out k hkS
   have hhi:∀ j,j<(Utf8.decode S k).2→byt S (k+j)=byt s (fr+(k+j)):=fun j hj=>HB.out (k+j) (by omega)
   have hit2:=Lib.iterAt_heap wr (B+1) S k (k+(Utf8.decode S k).2) hit
   have hbw2:=Lib.below_iterAt hbw (k:=B+1) (by omega) S (k+(Utf8.decode S k).2)
   have hI2:IsB B B out (wr.iterAt (B+1) S (k+(Utf8.decode S k).2)):=Lib.IsBuilderF.iterAt hI hit (k+(Utf8.decode S k).2)
   have hsz2:(B+1)<(wr.iterAt (B+1) S (k+(Utf8.decode S k).2)).heap.size:=by rw[Lib.iterAt_size];exact hsz
   obtain ⟨W2,hW2⟩:∃ W2,W2=wr.iterAt (B+1) S (k+(Utf8.decode S k).2):=⟨_,rfl⟩
   rw[←hW2] at hnx hit2 hbw2 hI2 hsz2
   obtain ⟨x,hx⟩:∃ x:Nat,x=(Utf8.decode S k).1:=⟨_,rfl⟩
   obtain ⟨d,hdd⟩:∃ d:Nat,d=(Utf8.decode S k).2:=⟨_,rfl⟩
   rw[←hx] at hnx
   rw[←hx,←hdd] at hsp
   rw[←hdd] at hwd hle hhi hit2
   rw[hby] at hsp
   obtain ⟨p,hp⟩:∃ p,p=fr+k:=⟨_,rfl⟩
   have ep:(fr:Int)+(k:Int)=(p:Int):=by omega
   have hp1:p<s.size:=by omega
   have hH:=H.out
   rw[←hp] at hH hsp
   have HP:=Lib.hid hp
   have hsz3:(B+1)≤W2.heap.size:=Nat.le_of_lt hsz2
   have hBW:B≤W2.heap.size:=by omega
   clear hx hdd hby hW2 hit hbw hI hsz H i0 hp
   rcases hH with ⟨hkp,t,w0,hR,hZ⟩|⟨hlt,hasc,hZ⟩
   ·obtain ⟨y,hy⟩:∃ y,byt s p=y:=⟨_,rfl⟩
    rw[hy] at hsp
    have hlt0:¬ ((p:Int)<(kept:Int)):=by omega
    have hsl:∀ W,(Instr.slice 9 (.string s) (some (.int .i64 (kept:Int))) (some (.int .i64 (p:Int))) none).run Tryz.prog W=.ok (.string (s.extract kept p)) W:=fun W=>by
     rw[run_slice_string W 9 s .i64 .i64 kept p Tryz.underlying9 (by omega) (by omega) (by omega)]
     rfl
    have hpl:(pieceL s kept p).length=p-kept:=piece_len (by omega)
    by_cases hy10:y=10
    ·obtain ⟨rfl,rfl⟩:x=10∧d=1:=by
      rcases hsp with ⟨h1,h2,h3⟩|⟨h1,_,_⟩
      ·exact ⟨by omega,h3⟩
      ·omega
     have H2:=Lib.hid (hZ.lf_inv (by omega) hp1 (by rw[hy];exact hy10))
     obtain ⟨l,hl⟩:∃ l,Lib.trimRightS (pieceL s kept p) [32,9]=l:=⟨_,rfl⟩
     have htl:out++l=t:=by rw[←hl];exact hR.trim
     have hll:l.length≤p-kept:=by
      rw[←hpl,←hl]
      unfold Lib.trimRightS
      rw[List.length_reverse]
      exact Nat.le_trans (List.dropWhile_sublist _).length_le (by rw[List.length_reverse];exact Nat.le_refl _)
     have HTR:Hid (Lib.trimRightS (s.extract kept p).data.toList [32,9]=l):=Lib.hid (by rw[piece_ext s kept p];exact hl)
     have hcat:(⟨out.toArray⟩:ByteArray)++⟨l.toArray⟩=⟨t.toArray⟩:=by rw[←htl,mk_append]
     have hos:(⟨out.toArray⟩:ByteArray).size=out.length:=size_mk out
     have hls:(⟨l.toArray⟩:ByteArray).size=l.length:=size_mk l
     have hxs:(s.extract kept p).size=p-kept:=by rw[ByteArray.size_extract];omega
     have HTL:=Lib.hid htl
     have HY:=Lib.hid (hy.trans hy10)
     clear hy hsp hR hZ hl htl hhi hy10
     have htll:t.length=out.length+l.length:=by rw[←HTL.out,List.length_append]
     have hnl:¬ (9223372036854775807<out.length+l.length):=by omega
     have hwp:IntKind.i64.wrap ((p:Int)+1)=((p+1:Nat):Int):=by rw[wrapQ _ (by omega) (by omega)];omega
     go_wp2_with fail
     go_region_law (first
      | (go_simp;go_at_call 92;refine (String_k B B out _ (by first|exact hI2.below b9|exact hI2) (by first|exact Nat.le_trans hBW b9.size|exact hBW)).mono ?_;rintro e w8 ⟨rfl,b8⟩)
      | (go_simp;go_at_call 59;refine (quotTrimR l (s.extract kept p) _ (by omega) HTR.out).mono ?_;rintro e w9 ⟨rfl,b9⟩))
     all_goals
      have hbd:Below w.heap.size w W2.drew:=below_drewN hbw2 1
      go_wp2
      refine bodyPost_ret (results_tmp4 rfl _ _ _) rfl ?_
      refine ⟨t,p+1,10,0,rfl,.inr ⟨rfl,by omega,by omega,by omega,.inr (.inl ⟨rfl,by rw[Nat.add_sub_cancel];exact HY.out,H2.out⟩)⟩,?_⟩
      first
       | exact (hbd.trans (b8.mono hB0)).trans (b9.mono (Nat.le_trans hbd.size b8.size))
       | exact (hbd.trans (b9.mono hbd.size)).trans (b8.mono hB0)
    have a10:((x:Int)==10)=false:=by
     rcases hsp with ⟨h1,h2,h3⟩|⟨h1,h2,_⟩ <;> simp <;> omega
    by_cases hyq:y=34
    ·have hno:¬ (34=39∧p+1<s.size∧byt s (p+1)=39):=fun e=>by omega
     obtain ⟨p1,hp1e⟩:∃ p1,p1=p+1:=⟨_,rfl⟩
     have ep1:(p:Int)+1=(p1:Int):=by omega
     have hp1s:p1≤s.size:=by omega
     have hp1l:p+1≤p1:=by omega
     have hp1g:p1≤p+1:=by omega
     obtain ⟨rfl,rfl⟩:x=34∧d=1:=by
      rcases hsp with ⟨h1,h2,h3⟩|⟨h1,_,_⟩
      ·exact ⟨by omega,h3⟩
      ·omega
     have H2:=hZ.done_inv (by omega) hp1 (by rw[hy];exact hyq) hno
     rw[←hp1e] at H2
     have hall:=hR.all
     have hcat:(⟨out.toArray⟩:ByteArray)++s.extract kept p=⟨(t++w0).toArray⟩:=by rw[←hall,piece_ext s kept p,mk_append]
     have hos:(⟨out.toArray⟩:ByteArray).size=out.length:=size_mk out
     have hxs:(s.extract kept p).size=p-kept:=by rw[ByteArray.size_extract];omega
     have htll:(t++w0).length=out.length+(p-kept):=by rw[←hall,List.length_append,hpl]
     have hnl:¬ (9223372036854775807<out.length+(p-kept)):=by omega
     have hwp:IntKind.i64.wrap (p1:Int)=(p1:Int):=wrapQ _ (by omega) (by omega)
     have H2h:=Lib.hid H2
     clear H2 hall hy hR hZ hhi hsp hpl hno hp1e
     go_wp2_with fail
     go_region_law (first
      | (go_simp;go_at_call 92;refine (String_k B B out _ (by exact hI2) (by exact hBW)).mono ?_;rintro e w8 ⟨rfl,b8⟩))
     all_goals
      have hbd:Below w.heap.size w W2.drew:=below_drewN hbw2 1
      go_wp2
      refine bodyPost_ret (results_tmp4 rfl _ _ _) rfl ?_
      refine ⟨t++w0,p1,34,0,rfl,.inr ⟨rfl,by omega,by omega,by omega,.inl ⟨rfl,H2h.out⟩⟩,?_⟩
      exact hbd.trans (b8.mono hB0)
    have aq:((x:Int)==34)=false:=by
     rcases hsp with ⟨h1,h2,h3⟩|⟨h1,h2,_⟩ <;> simp <;> omega
    by_cases hy92:y=92
    ·have hall:=hR.all
     obtain ⟨P0,hP0⟩:∃ P0,P0=pieceL s kept p:=⟨_,rfl⟩
     have hslP:∀ W,(Instr.slice 9 (.string s) (some (.int .i64 (kept:Int))) (some (.int .i64 (p:Int))) none).run Tryz.prog W=.ok (.string ⟨P0.toArray⟩) W:=fun W=>by
      rw[hsl W,piece_ext s kept p,hP0]
     rw[←hP0] at hall hpl
     obtain ⟨p1,hp1e⟩:∃ p1,p1=p+1:=⟨_,rfl⟩
     have ep1:(p:Int)+1=(p1:Int):=by omega
     have hp1s:p1≤s.size:=by omega
     have hp1l:p+1≤p1:=by omega
     have hp1g:p1≤p+1:=by omega
     have hyb:byt s p=92:=hy.trans hy92
     obtain ⟨rfl,rfl⟩:x=92∧d=1:=by
      rcases hsp with ⟨h1,h2,h3⟩|⟨h1,_,_⟩
      ·exact ⟨by omega,h3⟩
      ·omega
     by_cases hg:p+1<s.size∧byt s (p+1)=10
     ·have H2:=hZ.goes_inv hyb hg.1 hg.2
      have HPR:=Lib.hid (show decide (p+1<s.size∧byt s (p+1)=(10:UInt8).toNat)=true from decide_eq_true hg)
      rw[←hp1e] at HPR
      obtain ⟨p2,hp2e⟩:∃ p2,p2=p+2:=⟨_,rfl⟩
      have ep2:(p:Int)+2=(p2:Int):=by omega
      have hbl:byt s (p2-1)=10:=by rw[hp2e];exact hg.2
      rw[←hp2e,←hall] at H2
      have hp2s:p2≤s.size:=by omega
      have hp2l:p+2≤p2:=by omega
      have hp2g:p2≤p+2:=by omega
      have HBL:=Lib.hid hbl
      have HH2:=Lib.hid H2
      clear hy hy92 hR hZ hhi hsp hsl hall hP0 hg hp1e hp2e H2 hbl hyb hyq
      go_wp2_with fail
      refine (WriteString_k B B out P0 _ hI2 (by omega) hBW).mono ?_
      rintro e W3 ⟨rfl,hI3,b3,k3⟩
      go_wp2_with fail
      refine (quotPre true s p1 _ 10 _ hp1s rfl HPR.out).mono ?_
      rintro e w9 ⟨rfl,rfl⟩
      go_wp2_with fail
      refine (String_k B B _ _ hI3 (Nat.le_trans hBW b3.size)).mono ?_
      rintro e w8 ⟨rfl,b8⟩
      go_wp2
      refine bodyPost_ret (results_tmp4 rfl _ _ _) rfl ?_
      exact ⟨out++P0,p2,92,0,rfl,.inr ⟨rfl,by rw[List.length_append];omega,by omega,by omega,.inr (.inr ⟨rfl,HBL.out,HH2.out⟩)⟩,(hbw2.trans (b3.mono hB0)).trans (b8.mono hB0)⟩
     ·have HPR:=Lib.hid (show decide (p+1<s.size∧byt s (p+1)=(10:UInt8).toNat)=false from decide_eq_false hg)
      rw[←hp1e] at HPR
      cases he:U.esc (s.data.toList.drop p) with
      | none=>
       have H2:=Lib.hid (hZ.bad_inv hp1 hyb hg he)
       have HEA:=Lib.hid (escAt_none s p he)
       clear hy hy92 hR hZ hhi hsp hsl hall hP0 hg hp1e hyb hyq he
       go_wp2_with fail
       refine (WriteString_k B B out P0 _ hI2 (by omega) hBW).mono ?_
       rintro e W3 ⟨rfl,hI3,b3,k3⟩
       have hb3:Below w.heap.size w W3:=hbw2.trans (b3.mono hB0)
       go_wp2_with fail
       refine (quotPre false s p1 _ 10 _ hp1s rfl HPR.out).mono ?_
       rintro e w9 ⟨rfl,rfl⟩
       go_wp2_with fail
       refine (Read_is 0 (p:Int) 5 s (p:Int) (by omega) HEA.out _ (hEv.below hb3)).mono ?_
       rintro e w8 ⟨rfl,b8⟩
       go_wp2
       refine bodyPost_ret (results_tmp4 rfl _ _ _) rfl ?_
       exact ⟨[],p,0,5,rfl,.inl ⟨rfl,rfl,rfl,H2.out⟩,hb3.trans (b8.mono hb3.size)⟩
      | some ck=>
       obtain ⟨c,kk⟩:=ck
       have H2:=hZ.esc_inv hp1 hyb hg he
       have hel:=U.esc_len he
       rw[List.length_drop,←Lib.size_eq] at hel
       have hasc:=esc_bytes he
       have hen:=(U.encode_length (c:Int)).2
       obtain ⟨pk,hpk⟩:∃ pk,pk=p+kk:=⟨_,rfl⟩
       have epk:(p:Int)+(kk:Int)=(pk:Int):=by omega
       rw[←hpk] at H2 hasc
       have HEA:Hid (escAt s (p:Int)=((c:Int),(pk:Int),0)):=Lib.hid (by rw[escAt_some s p _ he,←epk])
       obtain ⟨EN,hEN⟩:∃ EN,EN=Lib.encodeRune (c:Int):=⟨_,rfl⟩
       rw[←hEN] at hen H2
       have HEN:=Lib.hid hEN
       have HH:Hid (RowL s 34 n T E O C R (fr+(k+1)) pk (out++P0++EN)):=by
        have hpp:=HP.out
        rw[hall]
        exact .inr ⟨by omega,fun j hj1 hj2=>hasc j hj1 (by omega),H2⟩
       have hpk1:pk≤s.size:=by omega
       have hpk2:p+2≤pk:=by omega
       have hc:=hel.2.2.2
       clear hy hy92 hR hZ hhi hsp hsl hall hP0 hg hp1e hyb hyq he hpk epk hel hasc hEN H2
       go_wp2_with fail
       refine (WriteString_k B B out P0 _ hI2 (by omega) hBW).mono ?_
       rintro e W3 ⟨rfl,hI3,b3,k3⟩
       have hb3:Below w.heap.size w W3:=hbw2.trans (b3.mono hB0)
       have hit3:=k3.iter hit2 (by omega)
       have hs3:=Nat.lt_of_lt_of_le hsz2 b3.size
       clear hI2 hit2
       go_wp2_with fail
       refine (quotPre false s p1 _ 10 _ hp1s rfl HPR.out).mono ?_
       rintro e w9 ⟨rfl,rfl⟩
       go_wp2_with fail
       refine (Read_is (c:Int) (pk:Int) 0 s (p:Int) (by omega) HEA.out _ (hEv.below hb3)).mono ?_
       rintro e w8 ⟨rfl,b8⟩
       have hI8:=hI3.below b8
       have hit8:w8.heap[B+1]?=some (.stringIter S (k+1)):=by rw[b8.block _ hs3];exact hit3
       have hb8:Below w.heap.size w w8:=hb3.trans (b8.mono hb3.size)
       have hs8:B+1<w8.heap.size:=Nat.lt_of_lt_of_le hs3 b8.size
       clear hI3 hit3
       go_wp2_with fail
       refine (WriteRune_k B B (out++P0) c hc w8 hI8 (by rw[List.length_append];omega) (by omega)).mono ?_
       rintro e w7 ⟨nn,rfl,hI7,b7,k7⟩
       rw[←HEN.out] at hI7
       have hit7:=k7.iter hit8 (by omega)
       go_wp2
       go_roundw
       case rel=>exact ⟨k+1,pk,out++P0++EN,rfl,hI7,hit7,hb8.trans (b7.mono hB0),Nat.lt_of_lt_of_le hs8 b7.size,by omega,by omega,by omega,by rw[List.length_append,List.length_append];omega,HH⟩
       case measure=>rw[iterPos_of hit7,hpos0];omega
    by_cases hyo:y=39
    ·have H2:=hZ.lit_inv hp1 (by rw[hy];omega) (by rw[hy];omega) (by rw[hy,hyo];decide) (by rw[hy];omega)
     have hR2:=hR.lit hp1 (by rw[hy,hyo];decide)
     have HH:Hid (RowL s 34 n T E O C R (fr+(k+1)) kept out):=by
      have e:fr+(k+1)=p+1:=by have:=HP.out;omega
      rw[e]
      exact .inl ⟨by omega,_,_,hR2,H2⟩
     obtain ⟨rfl,rfl⟩:x=39∧d=1:=by
      rcases hsp with ⟨h1,h2,h3⟩|⟨h1,_,_⟩
      ·exact ⟨by omega,h3⟩
      ·omega
     clear hy hR hZ hhi hsp hpl H2 hR2
     go_wp2
     go_roundw
     case rel=>exact ⟨k+1,kept,out,rfl,hI2,hit2,hbw2,hsz2,by omega,hk1,hk2,hol,HH⟩
     case measure=>rw[iterPos_of hit2,hpos0];omega
    have ao:((x:Int)==39)=false:=by
     rcases hsp with ⟨h1,h2,h3⟩|⟨h1,h2,_⟩ <;> simp <;> omega
    have a92:((x:Int)==92)=false:=by
     rcases hsp with ⟨h1,h2,h3⟩|⟨h1,h2,_⟩ <;> simp <;> omega
    have HH:Hid (RowL s 34 n T E O C R (fr+(k+d)) kept out):=by
     have hpk:=HP.out
     have e:fr+(k+d)=p+d:=by omega
     rw[e]
     rcases hsp with ⟨h1,h2,h3⟩|⟨h1,h2,h3⟩
     ·subst h3
      cases hw:U.white (y:Int) with
      | true=>exact .inl ⟨by omega,_,_,hR.white hp1 (by rw[hy];exact hw),hZ.white_inv (by omega) hp1 (by rw[hy];exact hw)⟩
      | false=>exact .inl ⟨by omega,_,_,hR.lit hp1 (by rw[hy];exact hw),hZ.lit_inv hp1 (by rw[hy];omega) (by rw[hy];omega) (by rw[hy];exact hw) (by rw[hy];omega)⟩
     ·obtain ⟨d,rfl⟩:∃ d',d=d'+1:=⟨d-1,by omega⟩
      obtain ⟨t',z1,z2⟩:=QZ.highs_inv (by omega) d p t w0 hZ hR (by omega) (fun j hj=>by
       have:=h3 j (by omega)
       rw[hhi j (by omega),←Nat.add_assoc,←hpk] at this
       exact this)
      exact .inl ⟨by omega,_,_,z2,z1⟩
    clear hy hR hZ hhi hsp hpl
    go_wp2
    go_roundw
    case rel=>exact ⟨k+d,kept,out,rfl,hI2,hit2,hbw2,hsz2,hle,hk1,hk2,hol,HH⟩
    case measure=>rw[iterPos_of hit2,hpos0];omega
   ·have hlt0:(p:Int)<(kept:Int):=by omega
    have hpa:=hasc p hlt (Nat.le_refl _)
    obtain rfl:d=1:=by
     rcases hsp with ⟨h1,h2,h3⟩|⟨h1,_,_⟩
     ·exact h3
     ·omega
    have HH:Hid (RowL s 34 n T E O C R (fr+(k+1)) kept out):=by
     have e:fr+(k+1)=p+1:=by have:=HP.out;omega
     rw[e]
     by_cases hpk:p+1=kept
     ·rw[hpk]
      exact .inl ⟨Nat.le_refl _,out,[],RowS.start s kept out,hZ⟩
     ·exact .inr ⟨by omega,fun j hj1 hj2=>hasc j hj1 (by omega),hZ⟩
    clear hsp hhi hZ hasc
    go_wp2
    go_roundw
    case rel=>exact ⟨k+1,kept,out,rfl,hI2,hit2,hbw2,hsz2,by omega,hk1,hk2,hol,HH⟩
    case measure=>rw[iterPos_of hit2,hpos0];omega
  ·have hnx:∀ ty,(Instr.next (.pointer (some ⟨B+1,0,none⟩)) true ty).run Tryz.prog wr=_:=fun ty=>Lib.run_next_end_at wr (B+1) S k ty hit hkS
   have HX:Hid (T=[]∧E=s.size∧O=false∧C=5):=by
    rcases H.out with ⟨h1,t,w0,h2,h3⟩|⟨h1,h2,h3⟩
    ·exact h3.end_inv (by omega)
    ·exact h3.end_inv (by omega)
   clear H
   go_wp2
   refine bodyPost_ret (results_tmp4 rfl _ _ _) rfl ?_
   exact ⟨[],s.size,0,5,rfl,.inl ⟨rfl,rfl,rfl,HX.out⟩,hbw⟩
end Go.Proofs.YtncngeamdechmaaGreatDoor

/- Parts of the proof, put together from smaller texts (blanks that Lean does not want are struck). Conditions: those that each theorem writes out. -/
import Derived.Test.YtncngeamdechmaaGreatDoorZ05
import Derived.Test.YtncngeamdechmaaGreatDoorZ11
namespace Go.Proofs.YtncngeamdechmaaGreatDoor
open Go.RowKit
theorem RS.keep {g:Nat} {s:ByteArray} {n:Int} {r:Rst} {v:Value} {w w':World} (h:RS g s n r v w) (hk:∀ k,k<w.heap.size→(k=g∨v.ownBlock=some k)→w'.heap[k]?=w.heap[k]?):RS g s n r v w':=
 ⟨(hk g h.cells.lt (.inl rfl)).trans h.cells,h.has.keep fun k e hlt=>hk k hlt (.inr e),h.apart,h.ok⟩
theorem RS.below {g:Nat} {s:ByteArray} {n:Int} {r:Rst} {v:Value} {w w':World} {B:Nat} (h:RS g s n r v w) (hb:Below B w w') (hB:w.heap.size≤B):RS g s n r v w':=h.keep fun k hk _=>hb.block k (Nat.lt_of_lt_of_le hk hB)
theorem RS.drewN {g:Nat} {s:ByteArray} {n:Int} {r:Rst} {v:Value} {w:World} (h:RS g s n r v w) (k:Nat):RS g s n r v (w.drewN k):=h.below (below_drewN (Below.refl _ _) k) (Nat.le_refl _)
theorem Keep.drewN {P:Nat→Prop} {a w:World} (h:Keep P a w) (k:Nat):Keep P a (w.drewN k):=h.trans ⟨rfl,rfl,rfl,Nat.le_refl _,fun _ _=>rfl⟩ (fun _ hi=>hi)
def ResS (o:Rd Rst) (c:Int) (r:Rst):Prop:=match o with
 | .ok b=>c=0∧r=b
 | .bad q k=>c=k∧c≠0∧r.at'=q
theorem Lv.step {B B' g:Nat} {vs vs':List Value} (hB:B≤B') (h:∀ v'∈vs',NewV B vs v'):∀ k,Lv B g vs k→Lv B' g vs' k:=fun k hk=>
 ⟨Nat.lt_of_lt_of_le hk.1 hB,hk.2.1,fun v' hv' e=>by
  rcases h v' hv' k e with h1|⟨v,hv,h1⟩
  ·exact absurd hk.1 (Nat.not_lt.2 h1)
  ·exact hk.2.2 v hv h1⟩
theorem NewV.trans {B B':Nat} {vs vs':List Value} {v':Value} (h:NewV B' vs' v') (hB:B≤B') (hv:∀ u∈vs',NewV B vs u):NewV B vs v':=fun k hk=>by
 rcases h k hk with h1|⟨u,hu,h1⟩
 ·exact .inl (Nat.le_trans hB h1)
 ·exact hv u hu k h1
theorem NewV.self {B:Nat} {vs:List Value} {v:Value} (h:v∈vs):NewV B vs v:=fun _ hk=>.inr ⟨v,h,hk⟩
theorem NewV.none {B:Nat} {vs:List Value} {n c:Nat}:NewV B vs (.slice none n c):=fun _ hk=>by cases hk
theorem one_mem {P:Value→Prop} {v:Value} (h:P v):∀ u∈[v],P u:=fun u hu=>by rw[List.mem_singleton] at hu;rw[hu];exact h
theorem flSkip_of (g:Nat) (s:ByteArray) (n:Int) (r:Rst) (v:Value) (o:Rd Rst) (w:World) (h:RS g s n r v w) (hs:s.size≤10000) (ho:skipP s n r o) :
  Calls Tryz.prog 19 #[.pointer (some ⟨g,0,none⟩)] w fun e w'=>∃ c v' r',e=.returned (.int .i64 c)∧RS g s n r' v' w'∧NewV w.heap.size [v] v'∧Keep (Lv w.heap.size g [v]) w w'∧ResS o c r':=by
 obtain ⟨L,S,E,C,hZ,ho⟩:=ho
 obtain ⟨E',rfl,h1,h2⟩:=hZ.far_le h.ok.top
 refine (flSkip_is g s n r v L S E' C w h hs hZ).mono ?_
 rintro e w' ⟨rfl,v',a1,a2,a3⟩
 refine ⟨C,v',_,rfl,a1,a2,a3,?_⟩
 rw[Int.toNat_natCast] at ho
 split at ho
 ·rename_i hC
  subst ho
  exact ⟨hC,rfl⟩
 ·rename_i hC
  subst ho
  exact ⟨rfl,hC,rfl⟩
set_option maxRecDepth 100000 in
set_option maxHeartbeats 3200000 in
theorem flBehind_is (g:Nat) (s:ByteArray) (n:Int) (r:Rst) (v:Value) (closing:Nat) (o:Rd Rst) (w:World) (h:RS g s n r v w) (hs:s.size≤10000) (hcl:closing=93∨closing=125) (ho:behindP s n closing r o) :
  Calls Tryz.prog 21 #[.pointer (some ⟨g,0,none⟩),.int .u8 (closing:Int)] w fun e w'=>∃ c v' r',e=.returned (.int .i64 c)∧RS g s n r' v' w'∧NewV w.heap.size [v] v'∧Keep (Lv w.heap.size g [v]) w w'∧ResS o c r':=by
 rcases ho with ⟨q,c,h1,rfl⟩|⟨b,h1,h2⟩
 ·have CS:=flSkip_of g s n r v _ w h hs h1
  go_enter Tryz.func21,Tryz.ntmps21
  go_wp2_with fail
  refine CS.mono ?_
  rintro e w1 ⟨c1,v1,r1,rfl,a1,a2,a3,a4,a5,a6⟩
  have hcn:(c1 != 0)=true:=by rw[bne,Bool.not_eq_eq_eq_not,Bool.not_true,beq_eq_false_iff_ne];exact a5
  have A:=Lib.hid (And.intro a1 (And.intro a2 (And.intro a3 (And.intro a4 a6))))
  clear a1 a2 a3 a4 a6 CS
  go_wp2
  go_ret
  obtain ⟨a1,a2,a3,a4,a6⟩:=A.out
  exact ⟨c1,v1,r1,rfl,a1,a2,a3,a4,a5,a6⟩
 ·have CS:=flSkip_of g s n r v _ w h hs h1
  obtain ⟨pc,hpc⟩:∃ c,pkN s b.at'=c:=⟨_,rfl⟩
  rw[isB_pk s b.at' closing (by omega),isB_pk s b.at' 44 (by decide),hpc] at h2
  by_cases hc1:pc=closing
  ·rw[decide_eq_true hc1,if_pos rfl] at h2
   subst h2 hc1
   have b0:((pc:Int)==(pc:Int))=true:=by rw[beq_iff_eq]
   go_enter Tryz.func21,Tryz.ntmps21
   go_wp2_with fail
   refine CS.mono ?_
   rintro e w1 ⟨c1,v1,r1,rfl,a1,a2,a3,rfl,rfl⟩
   have CP:=flPeek_is pc g s n r1.at' (r1.fin:Int) v1 r1.same _ a1.cells (by omega) hpc
   have A:=Lib.hid (And.intro a1 (And.intro a2 a3))
   clear a1 a2 a3 CS
   go_wp2_with fail
   refine CP.mono ?_
   rintro e w2 ⟨rfl,j1,rfl⟩
   go_wp2
   go_ret
   obtain ⟨a1,a2,a3⟩:=A.out
   exact ⟨0,v1,r1,rfl,a1.drewN _,a2,a3.drewN _,rfl,rfl⟩
  ·rw[decide_eq_false hc1,if_neg (by decide)] at h2
   have b0:((pc:Int)==(closing:Int))=false:=by rw[beq_eq_false_iff_ne];omega
   by_cases hc2:pc=44
   ·rw[decide_eq_true hc2,if_pos rfl] at h2
    subst hc2
    have hlt:=(pk_lt hpc (by decide)).1
    go_enter Tryz.func21,Tryz.ntmps21
    go_wp2_with fail
    refine CS.mono ?_
    rintro e w1 ⟨c1,v1,r1,rfl,a1,a2,a3,rfl,rfl⟩
    have CP:=fun W H=>flPeek_is 44 g s n r1.at' (r1.fin:Int) v1 r1.same W H (by omega) hpc
    have A:=Lib.hid (And.intro a1 (And.intro a2 a3))
    have H1:=a1.cells
    have hf:=a1.ok
    have hg:=H1.lt
    clear a1 a2 a3 CS
    go_wp2_with fail
    refine (CP _ H1).mono ?_
    rintro e w2 ⟨rfl,j1,rfl⟩
    go_wp2_with fail
    refine (CP _ (H1.drewN _)).mono ?_
    rintro e w3 ⟨rfl,j2,rfl⟩
    obtain ⟨a1,a2,a3⟩:=A.out
    have a1':=(a1.drewN j1).drewN j2
    have a3':=(a3.drewN j1).drewN j2
    obtain ⟨W4,hW4⟩:∃ W4,W4=(w1.drewN j1).drewN j2:=⟨_,rfl⟩
    have e4:W4.heap.size=w1.heap.size:=by rw[hW4];rfl
    have e5:w1.drewN (j1+j2)=W4:=by rw[hW4,World.drewN_drewN]
    rw[←hW4] at a1' a3'
    first|rw[e5] | rw[←hW4]
    clear hW4 e5 a1 a3 A CP H1
    have H4:=a1'.cells
    have c4:=H4.cell
    have z4:=H4.free
    have h5:RS g s n ⟨r1.l,r1.same,r1.fin,r1.at'+1⟩ v1 (W4.setCell ⟨g,2,none⟩ (.int .i64 ((r1.at':Int)+1))):=by
     refine ⟨?_,a1'.has.keep (fun k e _=>heap_setCell_other _ _ _ _ (fun e2=>a1'.apart (by rw[e,e2]))),a1'.apart,⟨Nat.le_succ_of_le hf.le,hlt,Nat.le_succ_of_le hf.few,hf.near⟩⟩
     have:=heap_setCell_same W4 g 2 _ _ (.int .i64 ((r1.at':Int)+1)) H4
     show FlAt g s n ((r1.at'+1:Nat):Int) (r1.fin:Int) v1 r1.same _
     rw[show ((r1.at'+1:Nat):Int)=(r1.at':Int)+1 by omega]
     exact this
    have CS2:=flSkip_of g s n _ v1 _ _ h5 hs h2
    have a5:Keep (Lv w.heap.size g [v]) w (W4.setCell ⟨g,2,none⟩ (.int .i64 ((r1.at':Int)+1))):=a3'.setCell (fun h=>h.2.1 rfl) _
    have A:=Lib.hid (And.intro a2 a5)
    have zz:(W4.setCell ⟨g,2,none⟩ (.int .i64 ((r1.at':Int)+1))).heap.size=W4.heap.size:=by simp[World.setCell]
    have hks:=a3'.size
    clear h5 a1' a3' H4 a2 a5
    go_wp2_with (go_at_call 19;refine CS2.mono ?_;rintro e w6 ⟨c6,v6,r6,rfl,s1,s2,s3,s4⟩)
    go_ret
    obtain ⟨a2,a5⟩:=A.out
    exact ⟨c6,v6,r6,rfl,s1,s2.trans (by rw[zz];exact hks) (one_mem a2),a5.trans s3 (Lv.step (by rw[zz];exact hks) (one_mem a2)),s4⟩
   ·rw[decide_eq_false hc2,if_neg (by decide)] at h2
    subst h2
    have b1:((pc:Int) != 44)=true:=by rw[bne,Bool.not_eq_eq_eq_not,Bool.not_true,beq_eq_false_iff_ne];omega
    go_enter Tryz.func21,Tryz.ntmps21
    go_wp2_with fail
    refine CS.mono ?_
    rintro e w1 ⟨c1,v1,r1,rfl,a1,a2,a3,rfl,rfl⟩
    have CP:=fun W H=>flPeek_is pc g s n r1.at' (r1.fin:Int) v1 r1.same W H (by omega) hpc
    have A:=Lib.hid (And.intro a1 (And.intro a2 a3))
    have H1:=a1.cells
    clear a1 a2 a3 CS
    go_wp2_with fail
    refine (CP _ H1).mono ?_
    rintro e w2 ⟨rfl,j1,rfl⟩
    go_wp2_with fail
    refine (CP _ (H1.drewN _)).mono ?_
    rintro e w3 ⟨rfl,j2,rfl⟩
    go_wp2
    go_ret
    obtain ⟨a1,a2,a3⟩:=A.out
    exact ⟨5,v1,r1,rfl,a1.drewN _,a2,a3.drewN _,rfl,by decide,rfl⟩
theorem htPL_drop (l:List NT) (k:Nat) (h:k<l.length):htPL (l.drop k)=max (l[k]'h).htP (htPL (l.drop (k+1))):=by
 rw[List.drop_eq_getElem_cons h,htPL]
theorem htPL_at:∀ (l:List NT) (j:Nat) (hj:j<l.length),(l[j]'hj).htP≤htPL l
 | [],j,hj=>absurd hj (Nat.not_lt_zero _)
 | t :: ts,0,hj=>by unfold htPL;exact Nat.le_max_left _ _
 | t :: ts,j+1,hj=>by unfold htPL;exact Nat.le_trans (htPL_at ts j (by simpa using hj)) (Nat.le_max_right _ _)
set_option maxRecDepth 100000 in
set_option maxHeartbeats 3200000 in
theorem flHeight_in:∀ (d:Nat) (a:NT),a.sz≤d→a.htP≤1000→∀ (ca:List Value) (w:World),IsN (Lo w.heap.size) w a ca →
  Calls Tryz.prog 28 #[.agg ca.toArray] w fun e w'=>e=.returned (.int .i64 (a.htP:Int))∧Below w.heap.size w w':=by
 intro d
 induction d with
 | zero=>intro a h;rw[←sz_kids] at h;omega
 | succ d ih=>
  intro a hd hM ca w ha
  have hzk:=sz_kids a
  obtain ⟨kva,lva,fva,rfl,la,fa,aoa,capa,rfl,a1,a2,a3⟩:=ha.open
  obtain ⟨aol,capl,rfl,_⟩:=la
  obtain ⟨aof,capf,rfl,_⟩:=fa
  obtain ⟨n,hN⟩:∃ n,a.kids.length=n:=⟨_,rfl⟩
  obtain ⟨nl,hNl⟩:∃ n,a.h.lead.length=n:=⟨_,rfl⟩
  obtain ⟨nf,hNf⟩:∃ n,a.h.foot.length=n:=⟨_,rfl⟩
  have A3:=Lib.hid a3
  have HN:=Lib.hid hN
  have hht:a.htP=if a.h.kind=3∨a.h.kind=4 then htPL a.kids+1 else 0:=by
   cases a with
   | mk hh kk=>unfold NT.htP;rfl
  rw[hN] at a1 ⊢
  have HD:Hid (szL a.kids≤d):=(by omega:szL a.kids≤d)
  unfold maxLen at a2
  unfold headC
  rw[hNl,hNf]
  generalize a.h.kind=x1 at hht ⊢
  generalize a.h.style=x2
  generalize (⟨a.h.anchor.toArray⟩:ByteArray)=s1
  generalize (⟨a.h.tag.toArray⟩:ByteArray)=s2
  generalize (⟨a.h.text.toArray⟩:ByteArray)=s3
  generalize a.h.at'=y1
  generalize a.h.blank=y2
  generalize a.h.ht=y3
  generalize (⟨a.h.trail.toArray⟩:ByteArray)=y4
  clear a3 hN hNl hNf hd ha hzk
  by_cases h34:x1=3∨x1=4
  ·rw[if_pos h34] at hht
   have hle:htPL a.kids≤1000:=by omega
   rw[hht]
   have e34:((x1 != 3)=true∧(x1 != 4)=false)∨(x1 != 3)=false:=by
    rcases h34 with h|h <;> subst h
    ·exact .inr rfl
    ·exact .inl ⟨rfl,rfl⟩
   clear h34 hht hM
   rcases e34 with ⟨e1,e2⟩|e1
   all_goals
    go_enter Tryz.func28,Tryz.ntmps28
    go_wp2
    obtain ⟨W2,hW2⟩:∃ W2:World,W2=w.alloc (.cells #[.int .i64 x1,.int .i64 x2,.int .i64 y1,.int .i64 y2,.string s1,.string s2,.string s3,.slice aoa n capa,.slice aol nl capl,.slice aof nf capf,.bool y3,.string y4] 30):=⟨_,rfl⟩
    have q3:W2.heap.size=w.heap.size+1:=by rw[hW2];simp
    have q4:Below w.heap.size w W2:=by rw[hW2];exact (Below.refl _ _).alloc (Nat.le_refl _) _
    rw[←hW2]
    clear hW2
    go_loopw [3,17] (fun vh vi wr=>∃ k h:Nat,vi=.int .i64 (k:Int)∧vh=.int .i64 (h:Int)∧k≤n∧h≤1000∧Hid (max h (htPL (a.kids.drop k))=htPL a.kids)∧Below W2.heap.size W2 wr) (fun _ vi _=>n-(intOf vi).toNat)
    case atStart=>exact ⟨0,0,rfl,rfl,Nat.zero_le _,by omega,(by show max 0 (htPL (a.kids.drop 0))=_;rw[List.drop_zero];omega),Below.refl _ _⟩
    case round=>
     obtain ⟨k,h,rfl,rfl,hk,hh,HM,hb⟩:=hrel
     have hbw:=q4.trans (hb.mono (by omega))
     by_cases hkn:k<n
     ·obtain ⟨ba,oa,rfl,hlta,hka⟩:=A3.out (by rw[HN.out];omega)
      have hja:k<a.kids.length:=by rw[HN.out];exact hkn
      obtain ⟨p0,p1,p2,p3,p4,p5,p6,p7,p8,p9,p10,p11,hNa,f0,f1,f2,f3,f4,f5,f6,f7,f8,f9,f10,f11⟩:=kid_cells hka (j:=k) hja
      rw[←hbw.cell (p:=⟨ba,_,none⟩) hlta] at f0 f1 f2 f3 f4 f5 f6 f7 f8 f9 f10 f11
      obtain ⟨y,hy⟩:∃ y,(a.kids[k]'hja)=y:=⟨_,rfl⟩
      rw[hy] at hNa
      obtain ⟨kv2,lv2,fv2,e2',la2,fa2,ao2,cap2,rfl,ka2⟩:=hNa.open
      obtain ⟨aol2,capl2,rfl,la2⟩:=la2
      obtain ⟨aof2,capf2,rfl,fa2⟩:=fa2
      clear ka2 la2 fa2
      unfold headC at e2'
      simp only[List.cons.injEq,and_true] at e2'
      obtain ⟨rfl,rfl,rfl,rfl,rfl,rfl,rfl,rfl,rfl,rfl,rfl,rfl⟩:=e2'
      have NA:=IsN.below hNa hbw hbw.size
      have hsk:=szL_at a.kids k hja
      have hl3:=htPL_at a.kids k hja
      have hdr:=htPL_drop a.kids k hja
      rw[hy] at hsk hl3 hdr
      have hd2:y.sz≤d:=by have:=HD.out;omega
      have hd3:y.htP≤1000:=by omega
      obtain ⟨x,hx⟩:∃ x,y.htP=x:=⟨_,rfl⟩
      have CI:=fun (W:World) (hW:Below wr.heap.size wr W)=>ih _ hd2 hd3 _ W (NA.below hW hW.size)
      have HM2:Hid (max (max h x) (htPL (a.kids.drop (k+1)))=htPL a.kids):=by
       show _=_
       rw[←HM.out,hdr,hx]
       omega
      rw[hx] at CI hl3
      have hmx:max (h:Int) (x:Int)=((max h x:Nat):Int):=by omega
      have hx2:max h x≤1000:=by omega
      have hkn2:(k:Int)<(n:Int):=by omega
      have hk0:(0:Int)≤(k:Int):=by omega
      clear hNa NA hka A3 ih hd2 hd3 HD hy hja q3 q4 hx hsk hl3 hdr HM hle
      go_wp2_with (go_at_call 28;refine (CI _ ((Below.refl _ _).alloc (Nat.le_refl _) _)).mono ?_;rintro e w6 ⟨rfl,hb6⟩)
      go_roundw
      case rel=>exact ⟨k+1,max h x,by go_num,by rw[←hmx],by omega,hx2,HM2,(hb.alloc hb.size _).trans (hb6.mono (by simp;have:=hb.size;omega))⟩
      case measure=>simp[intOf];omega
     ·obtain rfl:k=n:=by omega
      have hh2:h=htPL a.kids:=by
       have:=HM.out
       rw[List.drop_eq_nil_of_le (by rw[HN.out];exact Nat.le_refl _),htPL] at this
       omega
      have hkn2:¬ (k:Int)<(k:Int):=by omega
      clear A3 HM
      go_wp2
      go_ret
      exact ⟨rfl,hbw⟩
  ·rw[if_neg h34] at hht
   rw[hht]
   have e1:(x1 != 3)=true:=by rw[bne,Bool.not_eq_eq_eq_not,Bool.not_true,beq_eq_false_iff_ne];exact fun e=>h34 (.inl e)
   have e2:(x1 != 4)=true:=by rw[bne,Bool.not_eq_eq_eq_not,Bool.not_true,beq_eq_false_iff_ne];exact fun e=>h34 (.inr e)
   clear h34 hht hM A3 ih HD
   go_enter Tryz.func28,Tryz.ntmps28
   go_wp2
   go_ret
   exact ⟨rfl,(Below.refl _ _).alloc (Nat.le_refl _) _⟩
theorem flHeight_is (a:NT) (ca:List Value) (w:World) (hM:a.htP≤1000) (ha:IsN (Lo w.heap.size) w a ca) :
  Calls Tryz.prog 28 #[.agg ca.toArray] w fun e w'=>e=.returned (.int .i64 (a.htP:Int))∧Below w.heap.size w w':=flHeight_in a.sz a (Nat.le_refl _) hM ca w ha
end Go.Proofs.YtncngeamdechmaaGreatDoor
namespace Go.Proofs.YtncngeamdechmaaGreatDoor
open Go.RowKit
def trailA (r:Rst) (arr:Array Value) (o:Nat):Array Value:=match r.l,r.same with
 | (t,_) :: _,true=>(arr.setIfInBounds (o+10) (.bool true)).setIfInBounds (o+11) (.string ⟨t.toArray⟩)
 | _,_=>arr
theorem HasV.tail {w:World} {b off m cap:Nat} {c:List UInt8 × Nat} {cs:Coms} (hm:cap≤maxLen) (hc:Came w 2 (some ⟨b,off,none⟩) b off (m+1) cap (comV (c :: cs))) (hl:cs.length=m):HasV 2 w (.slice (some ⟨b,off+2,none⟩) m (cap-1)) cs.length (comV cs):=by
 subst hl
 have h0:0<cap:=by have:=hc.le;omega
 have hle:=hc.le
 refine ⟨_,b,off+2,cap-1,rfl,by omega,⟨by omega,fun _=>rfl,fun _=>hc.lt h0,comV_length cs,fun j u hu=>?_,fun j hj=>?_⟩,fun k hk=>by injection hk with hk;rw[←hk];exact hc.lt h0⟩
 ·have:=hc.olds (j+1+1) u hu
  rwa [show off+2+j=off+(j+1+1) by omega]
 ·have:=hc.spare j (by rw[show cap-1-cs.length=cap-(cs.length+1) by omega] at hj;exact hj)
  rwa [show off+(cs.length+1)*2+j=off+2+cs.length*2+j by omega] at this
theorem HasV.spent (w:World) (b off:Nat) (hb:b<w.heap.size):HasV 2 w (.slice (some ⟨b,off,none⟩) 0 0) 0 []:=⟨_,b,off,0,rfl,by decide,⟨Nat.le_refl _,fun h=>absurd h (Nat.lt_irrefl _),fun h=>absurd h (Nat.lt_irrefl _),rfl,fun j u h=>by simp at h,fun j h=>by simp at h⟩,fun k hk=>by injection hk with hk;rw[←hk];exact hb⟩
theorem trail_end {g:Nat} {s:ByteArray} {n:Int} {r:Rst} {v v':Value} {kb o:Nat} {arr:Array Value} {cs:Coms} {X:ByteArray} {w:World} (hA:FlAt g s n (r.at':Int) (r.fin:Int) v true w) (hk:w.heap[kb]?=some (.cells arr 30 (0,0))) (hkg:kb≠g)
  (hv:HasV 2 w v' cs.length (comV cs)) (hg:v'.ownBlock≠some g) (hvk:v'.ownBlock≠some kb) (hwf:WFr s r) (hfew:cs.length+r.fin≤r.at') :
  RS g s n ⟨cs,false,r.fin,r.at'⟩ v' ((((w.setCell ⟨kb,o+10,none⟩ (.bool true)).setCell ⟨kb,o+11,none⟩ (.string X)).setCell ⟨g,4,none⟩ v').setCell ⟨g,5,none⟩ (.bool false)) ∧
  ((((w.setCell ⟨kb,o+10,none⟩ (.bool true)).setCell ⟨kb,o+11,none⟩ (.string X)).setCell ⟨g,4,none⟩ v').setCell ⟨g,5,none⟩ (.bool false)).heap.size=w.heap.size ∧
  Keep (fun k=>k≠g∧k≠kb) w ((((w.setCell ⟨kb,o+10,none⟩ (.bool true)).setCell ⟨kb,o+11,none⟩ (.string X)).setCell ⟨g,4,none⟩ v').setCell ⟨g,5,none⟩ (.bool false)) ∧
  ((((w.setCell ⟨kb,o+10,none⟩ (.bool true)).setCell ⟨kb,o+11,none⟩ (.string X)).setCell ⟨g,4,none⟩ v').setCell ⟨g,5,none⟩ (.bool false)).heap[kb]?=some (.cells ((arr.setIfInBounds (o+10) (.bool true)).setIfInBounds (o+11) (.string X)) 30 (0,0)):=by
 have hgk:g≠kb:=fun e=>hkg e.symm
 have h1:((w.setCell ⟨kb,o+10,none⟩ (.bool true)).setCell ⟨kb,o+11,none⟩ (.string X)).heap[g]?=w.heap[g]?:=by rw[heap_setCell_other _ _ _ _ hgk,heap_setCell_other _ _ _ _ hgk]
 have h2:∀ k,k≠g→k≠kb→((((w.setCell ⟨kb,o+10,none⟩ (.bool true)).setCell ⟨kb,o+11,none⟩ (.string X)).setCell ⟨g,4,none⟩ v').setCell ⟨g,5,none⟩ (.bool false)).heap[k]?=w.heap[k]?:=fun k k1 k2=>by
  rw[heap_setCell_other _ _ _ _ k1,heap_setCell_other _ _ _ _ k1,heap_setCell_other _ _ _ _ k2,heap_setCell_other _ _ _ _ k2]
 refine ⟨⟨heap_setCell_same _ _ 5 _ _ _ (heap_setCell_same _ _ 4 _ _ _ (h1.trans hA)),hv.keep (fun k e _=>h2 k (fun e2=>hg (by rw[e,e2])) (fun e2=>hvk (by rw[e,e2]))),hg,⟨hwf.le,hwf.top,hfew,fun e=>by cases e⟩⟩,by simp[World.setCell],⟨rfl,rfl,rfl,by simp[World.setCell],fun k hk=>h2 k hk.1 hk.2⟩,?_⟩
 rw[heap_setCell_other _ _ _ _ hkg,heap_setCell_other _ _ _ _ hkg]
 exact heap_setCell_same _ _ (o+11) _ _ _ (heap_setCell_same _ _ (o+10) _ _ _ hk)
set_option maxRecDepth 100000 in
set_option maxHeartbeats 3200000 in
theorem flTrail_is (g:Nat) (s:ByteArray) (n:Int) (r:Rst) (v:Value) (kb o:Nat) (arr:Array Value) (w:World) (h:RS g s n r v w) (hk:w.heap[kb]?=some (.cells arr 30 (0,0))) (ho:o+12≤arr.size) (hkg:kb≠g) (hkv:v.ownBlock≠some kb) :
  Calls Tryz.prog 22 #[.pointer (some ⟨g,0,none⟩),.pointer (some ⟨kb,o,none⟩)] w fun e w'=>e=.returned (.tuple #[])∧∃ v',RS g s n ⟨left r.l r.same,false,r.fin,r.at'⟩ v' w'∧v'.ownBlock=v.ownBlock∧w'.heap.size=w.heap.size∧Keep (fun k=>k≠g∧k≠kb) w w'∧w'.heap[kb]?=some (.cells (trailA r arr o) 30 (0,0)):=by
 obtain ⟨hA,hH,hap,hwf⟩:=h
 have hg:=hA.lt
 cases hsm:r.same with
 | false=>
  rw[hsm] at hA
  have hc:=hA.cell
  have e1:trailA r arr o=arr:=by
   unfold trailA
   rw[hsm]
   cases r.l <;> rfl
  have HH:=Lib.hid (And.intro hA hH)
  obtain ⟨ao,cap,rfl⟩:=hH.form
  rw[e1]
  have HK:=Lib.hid hk
  clear hA hH hk e1
  go_enter Tryz.func22,Tryz.ntmps22
  go_wp2
  go_end0
  exact ⟨rfl,_,⟨HH.out.1,HH.out.2,hap,⟨hwf.le,hwf.top,hwf.few,fun e=>by cases e⟩⟩,rfl,rfl,Keep.refl _ _,HK.out⟩
 | true=>
  rw[hsm] at hA
  have hne:=hwf.near hsm
  obtain ⟨c,cs,hl⟩:∃ c cs,r.l=c :: cs:=by
   cases hr:r.l with
   | nil=>exact absurd hr hne
   | cons c cs=>exact ⟨c,cs,rfl⟩
  have hfew:=hwf.few
  have htop:=hwf.top
  rw[hl] at hH hfew
  have e1:trailA r arr o=(arr.setIfInBounds (o+10) (.bool true)).setIfInBounds (o+11) (.string ⟨c.1.toArray⟩):=by
   unfold trailA
   rw[hsm,hl]
  have e2:left r.l true=cs:=by rw[hl];rfl
  obtain ⟨ao,b,off,cap,rfl,hm,hcm,hown⟩:=hH
  have h0:0<cap:=by have:=hcm.le;simp at this;omega
  have hao:=hcm.addr h0
  subst hao
  have hcl:(c :: cs).length=cs.length+1:=rfl
  rw[hcl] at hcm
  have HT:=Lib.hid (HasV.tail hm hcm rfl)
  have HB:=Lib.hid (hown b rfl)
  have g0:w.cell? ⟨b,off,none⟩=some (.string ⟨c.1.toArray⟩):=hcm.olds 0 _ rfl
  have hle:=hcm.le
  have hbg:b≠g:=fun e=>hap (by rw[e];rfl)
  have hbk:b≠kb:=fun e=>hkv (by rw[e];rfl)
  rw[hcl] at hA ⊢
  have hc:=hA.cell
  have hz:=hA.free
  have kz:∀ j,w.frozen? ⟨kb,j,none⟩=false:=fun j=>frozen_of_row w _ j _ _ hk
  have k10:w.cell? ⟨kb,o+10,none⟩=some (arr[o+10]'(by omega)):=by rw[cell_of_row w kb _ arr _ (0,0) hk,Array.getElem?_eq_getElem]
  have k11:w.cell? ⟨kb,o+11,none⟩=some (arr[o+11]'(by omega)):=by rw[cell_of_row w kb _ arr _ (0,0) hk,Array.getElem?_eq_getElem]
  generalize arr[o+10]'(by omega)=u10 at k10
  generalize arr[o+11]'(by omega)=u11 at k11
  generalize hX:(⟨c.1.toArray⟩:ByteArray)=X at g0 e1
  rw[e1,e2]
  have hm1:(0:Int)<((cs.length:Nat):Int)+1:=by omega
  have HK:=Lib.hid (And.intro hk (And.intro hA hfew))
  clear hA hk e1 e2 hcm hX hl hne
  by_cases hcap:cap=1
  ·subst hcap
   have hcs:cs=[]:=List.eq_nil_of_length_eq_zero (by omega)
   subst hcs
   clear HT hle
   go_enter Tryz.func22,Tryz.ntmps22
   go_wp2
   go_end0
   obtain ⟨hk,hA,hf⟩:=HK.out
   obtain ⟨z1,z2,z3,z4⟩:=trail_end (o:=o) (X:=X) (cs:=[]) (v':=.slice (some ⟨b,off,none⟩) 0 0) hA hk hkg (HasV.spent w b off (HB.out)) hap hkv hwf (by have:=hwf.le;simp;omega)
   exact ⟨rfl,_,z1,rfl,z2,z3,z4⟩
  ·go_enter Tryz.func22,Tryz.ntmps22
   go_wp2
   go_end0
   obtain ⟨hk,hA,hf⟩:=HK.out
   obtain ⟨z1,z2,z3,z4⟩:=trail_end (o:=o) (X:=X) (cs:=cs) (v':=.slice (some ⟨b,off+2,none⟩) cs.length (cap-1)) hA hk hkg HT.out hap hkv hwf (by simp at hf;omega)
   exact ⟨rfl,_,z1,rfl,z2,z3,z4⟩
def IsKL (R:Nat→Prop) (w:World):List Value→List NT→Prop
 | cells,[]=>cells=[]
 | cells,t :: ts=>∃ cs rest,cells=cs++rest∧IsN R w t cs∧IsKL R w rest ts
theorem IsKL.frame {R R':Nat→Prop} {w w':World} (hR:∀ b,R b→R' b∧w'.heap[b]?=w.heap[b]?):∀ (ts:List NT) (cells:List Value),IsKL R w cells ts→IsKL R' w' cells ts
 | [],cells,h=>h
 | t :: ts,cells,h=>by
  obtain ⟨cs,rest,e,h1,h2⟩:=h
  exact ⟨cs,rest,e,IsN.frame hR t cs h1,IsKL.frame hR ts rest h2⟩
theorem IsKL.append {R:Nat→Prop} {w:World}:∀ (ts us:List NT) (a b:List Value),IsKL R w a ts→IsKL R w b us→IsKL R w (a++b) (ts++us)
 | [],us,a,b,h1,h2=>by rw[show a=[] from h1];exact h2
 | t :: ts,us,a,b,h1,h2=>by
  obtain ⟨cs,rest,rfl,g1,g2⟩:=h1
  exact ⟨cs,rest++b,List.append_assoc _ _ _,g1,IsKL.append ts us rest b g2 h2⟩
theorem IsKL.toKids {R:Nat→Prop} {w:World} {b:Nat}:∀ (ts:List NT) (o:Nat) (cells:List Value),IsKL R w cells ts→(∀ j u,cells[j]?=some u→w.cell? ⟨b,o+j,none⟩=some u)→IsKids R w b o ts
 | [],o,cells,h,hc=>by unfold IsKids;trivial
 | t :: ts,o,cells,h,hc=>by
  obtain ⟨cs,rest,rfl,h1,h2⟩:=h
  unfold IsKids
  have hl:=h1.len
  refine ⟨⟨cs,fun i hi=>?_,h1⟩,IsKL.toKids ts (o+12) rest h2 fun j u hu=>?_⟩
  ·have hi2:i<cs.length:=by omega
   rw[List.getElem?_eq_getElem hi2]
   exact hc i _ (by rw[List.getElem?_append_left hi2,List.getElem?_eq_getElem hi2])
  ·have:=hc (j+12) u (by rw[List.getElem?_append_right (by omega),show j+12-cs.length=j by omega];exact hu)
   rwa [show o+(j+12)=o+12+j by omega] at this
theorem IsKL.one {R:Nat→Prop} {w:World} {t:NT} {cs:List Value} (h:IsN R w t cs):IsKL R w cs [t]:=⟨cs,[],(List.append_nil _).symm,h,rfl⟩
theorem IsKL.two {R:Nat→Prop} {w:World} {a b:NT} {ca cb:List Value} (h1:IsN R w a ca) (h2:IsN R w b cb):IsKL R w (ca++cb) [a,b]:=⟨ca,cb,rfl,h1,IsKL.one h2⟩
theorem IsN.one {R:Nat→Prop} {w:World} {t:NT} {cs:List Value} (h:IsN R w t cs):∀ u∈cs,u.oneCell'=true:=by
 obtain ⟨kv,lv,fv,rfl,⟨ao,cap,rfl,_⟩,⟨ao2,cap2,rfl,_⟩,⟨ao3,cap3,rfl,_⟩⟩:=h.open
 intro u hu
 unfold headC at hu
 simp only[List.mem_cons,List.not_mem_nil,or_false] at hu
 rcases hu with rfl|rfl|rfl|rfl|rfl|rfl|rfl|rfl|rfl|rfl|rfl|rfl <;> rfl
theorem IsKL.ones {R:Nat→Prop} {w:World}:∀ (ts:List NT) (cells:List Value),IsKL R w cells ts→∀ u∈cells,u.oneCell'=true
 | [],cells,h,u,hu=>by rw[show cells=[] from h] at hu;cases hu
 | t :: ts,cells,h,u,hu=>by
  obtain ⟨cs,rest,rfl,h1,h2⟩:=h
  rcases List.mem_append.1 hu with hu|hu
  ·exact h1.one u hu
  ·exact IsKL.ones ts rest h2 u hu
theorem IsN.trailC {R:Nat→Prop} {w:World} {x:NT} {cs:List Value} (h:IsN R w x cs) (t:List UInt8):IsN R w (x.withTrail t) ((cs.set 10 (.bool true)).set 11 (.string ⟨t.toArray⟩)):=by
 obtain ⟨kv,lv,fv,rfl,h1,h2,h3⟩:=h.open
 exact IsN.shut h1 h2 h3
theorem IsN.topC {R R':Nat→Prop} {w:World} {x:NT} {cs:List Value} (h:IsN R w x cs) {v:Value} {l:Coms} (hv:ComsR R' w v l) (m:Int) (hR:∀ b,R b→R' b):IsN R' w (x.withTop l m) ((cs.set 8 v).set 3 (.int .i64 m)):=by
 obtain ⟨kv,lv,fv,rfl,h1,h2,h3⟩:=h.open
 exact IsN.shut hv (h2.frame fun b hb=>⟨hR b hb,rfl⟩) (h3.frame fun b hb=>⟨hR b hb,rfl⟩)
theorem infoN:(Tryz.prog.info? 30).map (fun i=>(i.zero,i.size,i.bytes))=some (some (.agg #[.int .i64 0,.int .i64 0,.int .i64 0,.int .i64 0,.string ByteArray.empty,.string ByteArray.empty,.string ByteArray.empty,.slice none 0 0,.slice none 0 0,.slice none 0 0,.bool false,.string ByteArray.empty]),12,176):=by kernel_rfl
end Go.Proofs.YtncngeamdechmaaGreatDoor

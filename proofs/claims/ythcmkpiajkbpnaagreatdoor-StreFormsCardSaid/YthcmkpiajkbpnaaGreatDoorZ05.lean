/- Parts of the proof, put together from smaller texts (blanks that Lean does not want are struck). Conditions: those that each theorem writes out. -/
import Derived.Laws.Tables
import Derived.Lib.TrimAscii
import Derived.Test.YthcmkpiajkbpnaaGreatDoorZ01
import Derived.Test.YthcmkpiajkbpnaaGreatDoorZ03
import Derived.Test.YthcmkpiajkbpnaaGreatDoorZ04
namespace Go.Proofs.YthcmkpiajkbpnaaGreatDoor
open Go.RowKit
def hSize (s:ByteArray) (at':Int):Nat:=if at'<0 then 0 else U.tSize (s.data.toList.drop at'.toNat)
theorem hSize_in (s:ByteArray) (k:Nat):hSize s (k:Int)=U.tSize (s.data.toList.drop k):=by
 unfold hSize
 rw[if_neg (by omega)]
 rfl
theorem hSize_out (s:ByteArray) (at':Int) (h:at'<0∨(s.size:Int)≤at'):hSize s at'=0:=by
 unfold hSize
 split
 ·rfl
 ·rw[List.drop_eq_nil_of_le (by rw[←Lib.size_eq];omega)];rfl
theorem hSize_zero (s:ByteArray):hSize s 0=U.tSize s.data.toList:=by
 have:=hSize_in s 0
 rwa [List.drop_zero] at this
set_option maxHeartbeats 800000 in
theorem handSize_is (n:Nat) (s:ByteArray) (at':Int) (w:World) (hs:s.size≤1099511627776) (h:hSize s at'=n) :
  Calls Tryz.prog 61 #[.string s,.int .i64 at'] w fun e w'=>e=.returned (.int .i64 (n:Int))∧Below w.heap.size w w':=by
 by_cases h1:at'<0
 ·rw[hSize_out s at' (.inl h1)] at h
  subst h
  go_enter Tryz.func61,Tryz.ntmps61
  go_wp2
  go_ret
  exact ⟨rfl,Below.refl _ _⟩
 by_cases h2:(s.size:Int)≤at'
 ·rw[hSize_out s at' (.inr h2)] at h
  subst h
  go_enter Tryz.func61,Tryz.ntmps61
  go_wp2
  go_ret
  exact ⟨rfl,Below.refl _ _⟩
 obtain ⟨k,rfl⟩:∃ k:Nat,at'=(k:Int):=⟨at'.toNat,by omega⟩
 have hk:k<s.size:=by omega
 rw[hSize_in] at h
 have hi:=run_byt s k hk _ rfl
 obtain ⟨b,hd,hb⟩:=drop_byte s k hk
 rw[hd,U.tSize_cons,hb] at h
 obtain ⟨x,hx⟩:∃ x:Nat,x=byt s k:=⟨_,rfl⟩
 rw[←hx] at hi h
 clear hd hb hx h1 h2
 by_cases h33:x=33
 ·rw[if_pos h33] at h
  subst h33
  obtain ⟨s1,hs1⟩:∃ s1,s.extract k s.size=s1:=⟨_,rfl⟩
  have hz1:s1.size=s.size-k:=by rw[←hs1];exact handDrop_size s k
  have hl1:s1.data.toList.drop 1=s.data.toList.drop (k+1):=by rw[←hs1,handDrop,List.drop_drop]
  rw[←hl1] at h
  obtain ⟨m,hm⟩:∃ m,U.tBrac (s1.data.toList.drop 1)=m:=⟨_,rfl⟩
  obtain ⟨a,b,hab⟩:∃ a b,U.tHand (s1.data.toList.drop 1)=(a,b):=⟨_,_,rfl⟩
  have hle:=U.tHand_le (s1.data.toList.drop 1)
  rw[hab,List.length_drop,←Lib.size_eq] at hle
  rw[hm,hab] at h
  have HM:=Lib.hid hm
  have HAB:=Lib.hid hab
  clear hl1 hm hab
  by_cases hm0:0<m
  ·rw[if_pos hm0] at h
   subst h
   go_enter Tryz.func61,Tryz.ntmps61
   go_wp2_with fail
   refine (handBracketed_is m s1 _ (by omega) HM.out).mono ?_
   rintro e w1 ⟨rfl,b1⟩
   go_wp2
   go_ret
   exact ⟨rfl,b1⟩
  ·rw[if_neg hm0] at h
   obtain rfl:m=0:=by omega
   subst h
   have hle2:a+b≤s1.size-1+1:=hle.2
   go_enter Tryz.func61,Tryz.ntmps61
   go_wp2_with fail
   refine (handBracketed_is 0 s1 _ (by omega) HM.out).mono ?_
   rintro e w1 ⟨rfl,b1⟩
   go_wp2_with fail
   refine (handParts_is a b s1 _ (by omega) (by omega) HAB.out).mono ?_
   rintro e w2 ⟨rfl,b2⟩
   go_wp2
   go_ret
   exact ⟨rfl,tb2 b1 b2⟩
 ·rw[if_neg h33] at h
  subst h
  have hxb:((x:Int) != 33)=true:=by simp;omega
  clear h33
  go_enter Tryz.func61,Tryz.ntmps61
  go_wp2
  go_ret
  exact ⟨rfl,Below.refl _ _⟩
theorem cat_data (a b:ByteArray):(a++b).data.toList=a.data.toList++b.data.toList:=by simp[ByteArray.data_append]
end Go.Proofs.YthcmkpiajkbpnaaGreatDoor
namespace Go.Proofs.YthcmkpiajkbpnaaGreatDoor.U
def tH (l:List UInt8):Nat:=if (l.drop (tR wordc 0 l)).headD 0=33 then tR wordc 0 l+2 else 1
end Go.Proofs.YthcmkpiajkbpnaaGreatDoor.U
namespace Go.Proofs.YthcmkpiajkbpnaaGreatDoor
open Go.RowKit
end Go.Proofs.YthcmkpiajkbpnaaGreatDoor
namespace Go.Proofs.YthcmkpiajkbpnaaGreatDoor.U
theorem stops_nil (p:Int→Bool):stops p []:=fun b r e=>absurd e (by simp)
theorem stops_cons {p:Int→Bool} {b:UInt8} {r:List UInt8} (h:p (b.toNat:Int)=false):stops p (b :: r):=fun c r' e=>by
 obtain ⟨rfl,_⟩:=List.cons.inj e
 exact h
theorem tR_whole {p:Int→Bool} {m:List UInt8} (h:tR p 0 m=m.length) (r:List UInt8) (hr:stops p r):tR p 0 (m++r)=m.length:=by
 have:=tR_take0 p m r hr
 rwa [h,List.take_length] at this
end Go.Proofs.YthcmkpiajkbpnaaGreatDoor.U
namespace Go.Proofs.YthcmkpiajkbpnaaGreatDoor.U
def tVer (l:List UInt8):Bool:=Lib.hasPrefix l [49,46]&&cAll cDig (l.drop 2)
def tHan (l:List UInt8):Bool:=decide (l.headD 0=33∧tH (l.drop 1)=l.length)
def tPfx (l:List UInt8):Bool:=!(flow ((l.headD 0).toNat:Int))&&decide (tR uri 0 l=l.length)
def yamlL:List UInt8:=[37,89,65,77,76]
def tagD:List UInt8:=[37,84,65,71]
def tForm (ws:List (List UInt8)):Bool:=
 if ws.getD 0 []=[37] then false
 else if ws.getD 0 []=yamlL then decide (ws.length=2)&&tVer (ws.getD 1 [])
 else if ws.getD 0 []=tagD then decide (ws.length=3)&&(tHan (ws.getD 1 [])&&tPfx (ws.getD 2 []))
 else true
def tRead (row:List UInt8):List UInt8 × List UInt8 × Bool × Int:=
 if row.headD 0=37∧tForm (tWords (tNote true row).1)=true then (Lib.join (tWords (tNote true row).1) [32],tCut ((tNote true row).2.drop 1),!(tNote true row).2.isEmpty,0)
 else ([],[],false,5)
def sameD (v w:List (List UInt8)):Bool:=
 decide (0<v.length)&&(decide (v.getD 0 []=w.getD 0 [])&&(decide (w.getD 0 []=yamlL)||(decide (w.getD 0 []=tagD)&&(decide (1<w.length)&&(decide (1<v.length)&&decide (v.getD 1 []=w.getD 1 []))))))
def tTwice (dirs:List (List UInt8)) (d:List UInt8):Bool:=decide (0<(tWords d).length)&&dirs.any fun x=>sameD (tWords x) (tWords d)
theorem trim_all (l:List UInt8):Lib.trimS l [48,49,50,51,52,53,54,55,56,57]=[]↔cRun cDig l=l.length:=by
 have hc:∀ b:UInt8,([48,49,50,51,52,53,54,55,56,57]:List UInt8).contains b=cDig (b.toNat:Int):=by
  intro b
  have H:∀ k:Fin 256,([48,49,50,51,52,53,54,55,56,57]:List UInt8).contains (UInt8.ofNat k.val)=cDig ((UInt8.ofNat k.val).toNat:Int):=by decide +kernel
  have:=H ⟨b.toNat,b.toNat_lt⟩
  simpa using this
 have drop_nil:∀ m:List UInt8,m.dropWhile ([48,49,50,51,52,53,54,55,56,57].contains ·)=[]↔∀ b∈m,cDig (b.toNat:Int)=true:=by
  intro m
  induction m with
  | nil=>simp
  | cons b m ih=>
   rw[List.dropWhile_cons,hc]
   cases hb:cDig (b.toNat:Int) with
   | true=>rw[if_pos rfl,ih];simp[hb]
   | false=>rw[if_neg (by decide)];simp[hb]
 have all:cRun cDig l=l.length↔∀ b∈l,cDig (b.toNat:Int)=true:=⟨cRun_len,cRun_all⟩
 rw[all]
 unfold Lib.trimS Lib.trimLeftS
 rw[drop_nil]
 unfold Lib.trimRightS
 constructor
 ·intro h
  have h2:l.reverse.dropWhile ([48,49,50,51,52,53,54,55,56,57].contains ·)=[]:=by
   cases hd:l.reverse.dropWhile ([48,49,50,51,52,53,54,55,56,57].contains ·) with
   | nil=>rfl
   | cons b m=>
    exfalso
    have h3:=h b (by rw[hd];simp)
    have h4:=List.head?_dropWhile_not ([48,49,50,51,52,53,54,55,56,57].contains ·) l.reverse
    rw[hd] at h4
    simp only[List.head?_cons,hc] at h4
    rw[h3] at h4
    exact absurd h4 (by decide)
  intro b hb
  exact (drop_nil l.reverse).1 h2 b (by simpa using hb)
 ·intro h b hb
  refine h b ?_
  have:=(List.dropWhile_sublist _).mem (List.mem_reverse.1 hb)
  simpa using this
theorem ver_prog (l:List UInt8):tVer l=(Lib.hasPrefix l [49,46]&&(!(l.drop 2).isEmpty&&decide (Lib.trimS (l.drop 2) [48,49,50,51,52,53,54,55,56,57]=[]))):=by
 unfold tVer cAll
 rw[show decide (Lib.trimS (l.drop 2) [48,49,50,51,52,53,54,55,56,57]=[])=decide (cRun cDig (l.drop 2)=(l.drop 2).length) from decide_eq_decide.2 (trim_all _)]
theorem suffix_last (m:List UInt8):Lib.hasSuffix m [33]=true↔∃ m1,m=m1++[33]:=by
 unfold Lib.hasSuffix
 rw[List.isSuffixOf_iff_suffix]
 constructor
 ·rintro ⟨t,rfl⟩;exact ⟨t,rfl⟩
 ·rintro ⟨t,rfl⟩;exact ⟨t,rfl⟩
theorem brac_none (m:List UInt8):¬ (0<tBrac (m++[97])∧tBrac (m++[97])=m.length+2):=by
 rintro ⟨h,he⟩
 cases m with
 | nil=>exact absurd h (by decide)
 | cons c m=>
  rw[List.cons_append,tBrac_cons] at he h
  split at he
  ·next hc=>
   have hk:tR uri 0 (m++[97])=m.length:=by rw[List.length_cons] at he;omega
   have h62:=hc.2.2
   rw[hk,List.drop_left] at h62
   exact absurd h62 (by decide)
  ·omega
theorem han_iff (w:List UInt8):(Lib.hasSuffix w [33]=true∧tSize (w++[97])=w.length+1)↔tHan w=true:=by
 unfold tHan
 rw[decide_eq_true_eq]
 cases w with
 | nil=>exact ⟨fun h=>absurd h.1 (by decide),fun h=>absurd h.1 (by decide)⟩
 | cons b m=>
  show _↔b=33∧tH m=m.length+1
  by_cases hb:b=33
  ·subst hb
   have e33:(33:UInt8).toNat=33:=rfl
   rw[List.cons_append,tSize_cons,if_pos e33,suffix_last,List.length_cons]
   by_cases hm:m=[]
   ·subst hm
    exact ⟨fun _=>⟨rfl,rfl⟩,fun _=>⟨⟨[],rfl⟩,by decide +kernel⟩⟩
   obtain ⟨k,hk⟩:∃ k,k=tR wordc 0 m:=⟨_,rfl⟩
   constructor
   ·rintro ⟨⟨m0,hm0⟩,hs⟩
    refine ⟨rfl,?_⟩
    obtain ⟨m1,rfl⟩:∃ m1,m=m1++[33]:=by
     cases m0 with
     | nil=>exact absurd (List.cons.inj hm0).2 hm
     | cons x m1=>exact ⟨m1,(List.cons.inj hm0).2⟩
    have hnb:=brac_none (m1++[33])
    by_cases hB:0<tBrac (m1++[33]++[97])
    ·rw[if_pos hB] at hs
     exact absurd ⟨hB,by rw[hs]⟩ hnb
    rw[if_neg hB] at hs
    have hlen:(m1++[33]).length=m1.length+1:=by simp
    rw[hlen] at hs ⊢
    have no33:∀ (k:Nat),k≤m1.length→tR sfx 0 ((m1++[33]++[97]).drop k)≠((m1++[33]++[97]).drop k).length:=by
     intro k hk2 h
     have:=sfx_no33 ((m1++[33]++[97]).drop k) 0 (by omega) 33 (by
      rw[pend0,Nat.sub_zero,h,List.take_length,List.append_assoc,List.drop_append_of_le_length hk2]
      simp)
     exact this rfl
    by_cases hc:((m1++[33]++[97]).drop (tR wordc 0 (m1++[33]++[97]))).headD 0=33∧0<tR sfx 0 ((m1++[33]++[97]).drop (tR wordc 0 (m1++[33]++[97])+1))
    ·have eh:tHand (m1++[33]++[97])=(tR wordc 0 (m1++[33]++[97])+2,tR sfx 0 ((m1++[33]++[97]).drop (tR wordc 0 (m1++[33]++[97])+1))):=by unfold tHand;rw[if_pos hc]
     rw[eh] at hs
     obtain ⟨q,hq⟩:∃ q,q=tR wordc 0 (m1++[33]++[97]):=⟨_,rfl⟩
     rw[←hq] at hs hc
     have hs:q+2+tR sfx 0 ((m1++[33]++[97]).drop (q+1))=m1.length+1+1+1:=hs
     have hlt:=(headD_pos (by decide) hc.1).1
     have hld:((m1++[33]++[97]).drop (q+1)).length=m1.length+2-(q+1):=by rw[List.length_drop];simp
     have hll:(m1++[33]++[97]).length=m1.length+2:=by simp
     rw[hll] at hlt
     have hq1:m1.length≤q:=by
      refine Decidable.byContradiction fun hn=>no33 (q+1) (by omega) ?_
      rw[hld];omega
     have hq2:q≠m1.length+1:=by
      intro h
      have h2:=hc.1
      rw[h,List.drop_append_of_le_length (by simp),List.drop_of_length_le (by simp)] at h2
      exact absurd h2 (by decide)
     have hq3:q=m1.length:=by omega
     have ht:=tR_take0 wordc (m1++[33]++[97]) [33] (stops_cons (by decide))
     rw[←hq,hq3,List.append_assoc,List.take_left] at ht
     unfold tH
     rw[ht,List.drop_left]
     rfl
    ·have eh:tHand (m1++[33]++[97])=(1,tR sfx 0 (m1++[33]++[97])):=by unfold tHand;rw[if_neg hc]
     rw[eh] at hs
     have hs:1+tR sfx 0 (m1++[33]++[97])=m1.length+1+1+1:=hs
     have:=no33 0 (Nat.zero_le _)
     rw[List.drop_zero] at this
     have hll:(m1++[33]++[97]).length=m1.length+2:=by simp
     exact absurd (by rw[hll];omega) this
   ·rintro ⟨-,hH⟩
    unfold tH at hH
    rw[←hk] at hH
    have hpos:=List.length_pos_iff.2 hm
    split at hH
    ·next h33=>
     obtain ⟨hkl,hd⟩:=headD_pos (by decide) h33
     have hkm:k+1=m.length:=by omega
     have hm1:m=m.take k++[33]:=by
      conv=>lhs;rw[←List.take_append_drop k m]
      rw[hd,List.drop_of_length_le (by omega)]
     have htl:(m.take k).length=k:=by rw[List.length_take];omega
     refine ⟨⟨33 :: m.take k,by rw[List.cons_append,←hm1]⟩,?_⟩
     have ht:tR wordc 0 (m++[97])=k:=by
      have:=tR_take0 wordc m ([33]++[97]) (stops_cons (by decide))
      rw[←hk,←List.append_assoc,←hm1] at this
      exact this
     have hb:¬ 0<tBrac (m++[97]):=by
      intro h
      have h60:=tBrac_head h
      cases m with
      | nil=>exact absurd rfl hm
      | cons c m2=>
       have hc:c=60:=h60
       subst hc
       have:k=0:=by rw[hk,tR_zero,if_neg (by decide)]
       subst this
       rw[List.drop_zero] at h33
       have h33:(60:UInt8)=33:=h33
       exact absurd h33 (by decide)
     have e1:(m++[97]).drop k=[33,97]:=by
      conv=>lhs;rw[hm1]
      rw[List.append_assoc,List.drop_append_of_le_length (by omega),List.drop_of_length_le (by omega)]
      rfl
     have e2:(m++[97]).drop (k+1)=[97]:=by rw[←List.drop_drop,e1];rfl
     have e3:tR sfx 0 [97]=1:=by decide +kernel
     rw[if_neg hb]
     unfold tHand
     rw[ht,e1,e2,e3,if_pos ⟨rfl,by omega⟩]
     show k+2+1=_
     omega
    ·omega
  ·refine ⟨fun h=>?_,fun h=>absurd h.1 hb⟩
   have h2:=h.2
   rw[List.cons_append,tSize_cons,if_neg (show ¬ b.toNat=33 from fun e=>hb (UInt8.toNat_inj.1 e))] at h2
   exact absurd h2.symm (Nat.succ_ne_zero _)
theorem pfx_iff {w:List UInt8} (hn:w≠[]):tSize (33 :: 60 :: (w++[62]))=w.length+3↔tR uri 0 w=w.length:=by
 have hpos:=List.length_pos_iff.2 hn
 rw[tSize_cons,if_pos (show (33:UInt8).toNat=33 from rfl),tHand_other _ rfl]
 constructor
 ·intro h
  split at h
  ·rw[tBrac_cons] at h
   split at h
   ·have hk:tR uri 0 (w++[62])=w.length:=by omega
    have:=tR_take0 uri (w++[62]) [] (stops_nil _)
    rw[hk,List.take_left,List.append_nil] at this
    exact this
   ·omega
  ·have h:1+0=w.length+3:=h
   omega
 ·intro h
  have hk:=tR_whole h [62] (stops_cons (show uri ((62:UInt8).toNat:Int)=false by decide))
  have e:tBrac (60 :: (w++[62]))=w.length+3:=by
   rw[tBrac_cons,hk,List.drop_left,if_pos ⟨rfl,hpos,rfl⟩]
  rw[e,if_pos (by omega)]
theorem words_ne {row:List UInt8} (h:row.headD 0=37):∃ w ws,tWords (tNote true row).1=(37 :: w) :: ws:=by
 cases row with
 | nil=>exact absurd h (by decide)
 | cons b l=>
  have hb:b=37:=h
  subst hb
  have e:tWord (37 :: l)=(37 :: l.takeWhile nw,l.dropWhile nw):=by
   rw[tWord_cons,if_neg (by decide),if_neg (by decide)]
  exact ⟨_,_,((split_step _ _ _ e).2 (by simp)).1⟩
end Go.Proofs.YthcmkpiajkbpnaaGreatDoor.U
namespace Go.Proofs.YthcmkpiajkbpnaaGreatDoor
open Go.RowKit
structure DT where
 head:Coms
 dirs:List (List UInt8)
 mark:Bool
 root:NT
 foot:Coms
def bgnN (s:ByteArray) (p:Nat) (kd:Int) (c:Nat):Nat:=if s.size≤p then 0 else if kd=4 then 1 else if byt s p=37∧c=0 then 2 else if kd=3 then 3 else 4
def bgnR (s:ByteArray) (p k:Nat):Prop:=∃ a b q,RowB s p a∧RowE s p b∧FirN s a b q∧k=bgnN s p (kindN s a b q) (p-a)
inductive SZ (s:ByteArray) (D:List DT) (T:Coms) (E C:Int):Nat→Nat→Coms→List (List UInt8)→List DT→Prop
 | skipX {g p H ds xs q c}:passR s p (.bad q c)→c≠0→D=[]→T=[]→E=((q:Nat):Int)→C=c→SZ s D T E C (g+1) p H ds xs
 | lacks {g p H ds xs L S q k}:passR s p (.ok (L,S,q))→ds≠[]→bgnR s q k→k≠2→k≠3→D=[]→T=[]→E=((q:Nat):Int)→C=5→SZ s D T E C (g+1) p H ds xs
 | over {g p H xs L S q}:passR s p (.ok (L,S,q))→bgnR s q 0→D=xs→T=H++L→E=0→C=0→SZ s D T E C (g+1) p H [] xs
 | dots {g p H xs L S q t L2 S2 C2}:passR s p (.ok (L,S,q))→bgnR s q 1→RowE s q t→NoteZ (cutB s t) false 0 ((q+3:Nat):Int) L2 S2 ((t:Nat):Int) C2→SZ s D T E C g (t+1) (H++L++L2) [] xs→SZ s D T E C (g+1) p H [] xs
 | dotsX {g p H xs L S q t L2 S2 q2 C2}:passR s p (.ok (L,S,q))→bgnR s q 1→RowE s q t→NoteZ (cutB s t) false 0 ((q+3:Nat):Int) L2 S2 ((q2:Nat):Int) C2→q2<t→D=[]→T=[]→E=((q2:Nat):Int)→C=5→SZ s D T E C (g+1) p H [] xs
 | dirX {g p H ds xs L S q t d cm has c}:passR s p (.ok (L,S,q))→bgnR s q 2→RowE s q t→U.tRead (pieceL s q t)=(d,cm,has,c)→c≠0→D=[]→T=[]→E=((q:Nat):Int)→C=c→SZ s D T E C (g+1) p H ds xs
 | dirTwo {g p H ds xs L S q t d cm has}:passR s p (.ok (L,S,q))→bgnR s q 2→RowE s q t→U.tRead (pieceL s q t)=(d,cm,has,0)→U.tTwice ds d=true→D=[]→T=[]→E=((q:Nat):Int)→C=5→SZ s D T E C (g+1) p H ds xs
 | dir {g p H ds xs L S q t d cm has}:passR s p (.ok (L,S,q))→bgnR s q 2→RowE s q t→U.tRead (pieceL s q t)=(d,cm,has,0)→U.tTwice ds d=false→SZ s D T E C g (t+1) (H++L++if has=true then [(cm,0)] else []) (ds++[d]) xs→SZ s D T E C (g+1) p H ds xs
 | mark {g p H ds xs L S q x F e}:passR s p (.ok (L,S,q))→bgnR s q 3→TreeZ s ((q+3:Nat):Int) true (some x) F ((e:Nat):Int) 0→SZ s D T E C g e [] [] (xs++[⟨H++L,ds,true,x,F⟩])→SZ s D T E C (g+1) p H ds xs
 | markX {g p H ds xs L S q x F e c}:passR s p (.ok (L,S,q))→bgnR s q 3→TreeZ s ((q+3:Nat):Int) true x F e c→c≠0→D=[]→T=[]→E=e→C=c→SZ s D T E C (g+1) p H ds xs
 | bare {g p H xs L S q x F e}:passR s p (.ok (L,S,q))→bgnR s q 4→TreeZ s ((p:Nat):Int) false (some x) F ((e:Nat):Int) 0→SZ s D T E C g e [] [] (xs++[⟨H,[],false,x,F⟩])→SZ s D T E C (g+1) p H [] xs
 | bareX {g p H xs L S q x F e c}:passR s p (.ok (L,S,q))→bgnR s q 4→TreeZ s ((p:Nat):Int) false x F e c→c≠0→D=[]→T=[]→E=e→C=c→SZ s D T E C (g+1) p H [] xs
def StreZ (s:ByteArray) (D:List DT) (T:Coms) (E C:Int):Prop:=∃ g,g≤20000∧SZ s D T E C g 0 [] [] []
end Go.Proofs.YthcmkpiajkbpnaaGreatDoor
namespace Go.Proofs.YthcmkpiajkbpnaaGreatDoor
open Go.RowKit
theorem row12_set (w:World) (g:Nat) (T:TypeId) (c0 c1 c2 c3 c4 c5 c6 c7 c8 c9 c10 c11 u0 u1 u2 u3 u4 u5 u6 u7 u8 u9 u10 u11:Value) (hg:w.heap[g]?=some (.cells #[c0,c1,c2,c3,c4,c5,c6,c7,c8,c9,c10,c11] T (0,0))) :
  ((((((((((((w.setCell ⟨g,0,none⟩ u0).setCell ⟨g,1,none⟩ u1).setCell ⟨g,2,none⟩ u2).setCell ⟨g,3,none⟩ u3).setCell ⟨g,4,none⟩ u4).setCell ⟨g,5,none⟩ u5).setCell ⟨g,6,none⟩ u6).setCell ⟨g,7,none⟩ u7).setCell ⟨g,8,none⟩ u8).setCell ⟨g,9,none⟩ u9).setCell ⟨g,10,none⟩ u10).setCell ⟨g,11,none⟩ u11).heap[g]?=some (.cells #[u0,u1,u2,u3,u4,u5,u6,u7,u8,u9,u10,u11] T (0,0)):=by
 have h0:(w.setCell ⟨g,0,none⟩ u0).heap[g]?=some (.cells #[u0,c1,c2,c3,c4,c5,c6,c7,c8,c9,c10,c11] T (0,0)):=heap_setCell_same _ g 0 _ T u0 hg
 have h1:((w.setCell ⟨g,0,none⟩ u0).setCell ⟨g,1,none⟩ u1).heap[g]?=some (.cells #[u0,u1,c2,c3,c4,c5,c6,c7,c8,c9,c10,c11] T (0,0)):=heap_setCell_same _ g 1 _ T u1 h0
 have h2:(((w.setCell ⟨g,0,none⟩ u0).setCell ⟨g,1,none⟩ u1).setCell ⟨g,2,none⟩ u2).heap[g]?=some (.cells #[u0,u1,u2,c3,c4,c5,c6,c7,c8,c9,c10,c11] T (0,0)):=heap_setCell_same _ g 2 _ T u2 h1
 have h3:((((w.setCell ⟨g,0,none⟩ u0).setCell ⟨g,1,none⟩ u1).setCell ⟨g,2,none⟩ u2).setCell ⟨g,3,none⟩ u3).heap[g]?=some (.cells #[u0,u1,u2,u3,c4,c5,c6,c7,c8,c9,c10,c11] T (0,0)):=heap_setCell_same _ g 3 _ T u3 h2
 have h4:(((((w.setCell ⟨g,0,none⟩ u0).setCell ⟨g,1,none⟩ u1).setCell ⟨g,2,none⟩ u2).setCell ⟨g,3,none⟩ u3).setCell ⟨g,4,none⟩ u4).heap[g]?=some (.cells #[u0,u1,u2,u3,u4,c5,c6,c7,c8,c9,c10,c11] T (0,0)):=heap_setCell_same _ g 4 _ T u4 h3
 have h5:((((((w.setCell ⟨g,0,none⟩ u0).setCell ⟨g,1,none⟩ u1).setCell ⟨g,2,none⟩ u2).setCell ⟨g,3,none⟩ u3).setCell ⟨g,4,none⟩ u4).setCell ⟨g,5,none⟩ u5).heap[g]?=some (.cells #[u0,u1,u2,u3,u4,u5,c6,c7,c8,c9,c10,c11] T (0,0)):=heap_setCell_same _ g 5 _ T u5 h4
 have h6:(((((((w.setCell ⟨g,0,none⟩ u0).setCell ⟨g,1,none⟩ u1).setCell ⟨g,2,none⟩ u2).setCell ⟨g,3,none⟩ u3).setCell ⟨g,4,none⟩ u4).setCell ⟨g,5,none⟩ u5).setCell ⟨g,6,none⟩ u6).heap[g]?=some (.cells #[u0,u1,u2,u3,u4,u5,u6,c7,c8,c9,c10,c11] T (0,0)):=heap_setCell_same _ g 6 _ T u6 h5
 have h7:((((((((w.setCell ⟨g,0,none⟩ u0).setCell ⟨g,1,none⟩ u1).setCell ⟨g,2,none⟩ u2).setCell ⟨g,3,none⟩ u3).setCell ⟨g,4,none⟩ u4).setCell ⟨g,5,none⟩ u5).setCell ⟨g,6,none⟩ u6).setCell ⟨g,7,none⟩ u7).heap[g]?=some (.cells #[u0,u1,u2,u3,u4,u5,u6,u7,c8,c9,c10,c11] T (0,0)):=heap_setCell_same _ g 7 _ T u7 h6
 have h8:(((((((((w.setCell ⟨g,0,none⟩ u0).setCell ⟨g,1,none⟩ u1).setCell ⟨g,2,none⟩ u2).setCell ⟨g,3,none⟩ u3).setCell ⟨g,4,none⟩ u4).setCell ⟨g,5,none⟩ u5).setCell ⟨g,6,none⟩ u6).setCell ⟨g,7,none⟩ u7).setCell ⟨g,8,none⟩ u8).heap[g]?=some (.cells #[u0,u1,u2,u3,u4,u5,u6,u7,u8,c9,c10,c11] T (0,0)):=heap_setCell_same _ g 8 _ T u8 h7
 have h9:((((((((((w.setCell ⟨g,0,none⟩ u0).setCell ⟨g,1,none⟩ u1).setCell ⟨g,2,none⟩ u2).setCell ⟨g,3,none⟩ u3).setCell ⟨g,4,none⟩ u4).setCell ⟨g,5,none⟩ u5).setCell ⟨g,6,none⟩ u6).setCell ⟨g,7,none⟩ u7).setCell ⟨g,8,none⟩ u8).setCell ⟨g,9,none⟩ u9).heap[g]?=some (.cells #[u0,u1,u2,u3,u4,u5,u6,u7,u8,u9,c10,c11] T (0,0)):=heap_setCell_same _ g 9 _ T u9 h8
 have h10:(((((((((((w.setCell ⟨g,0,none⟩ u0).setCell ⟨g,1,none⟩ u1).setCell ⟨g,2,none⟩ u2).setCell ⟨g,3,none⟩ u3).setCell ⟨g,4,none⟩ u4).setCell ⟨g,5,none⟩ u5).setCell ⟨g,6,none⟩ u6).setCell ⟨g,7,none⟩ u7).setCell ⟨g,8,none⟩ u8).setCell ⟨g,9,none⟩ u9).setCell ⟨g,10,none⟩ u10).heap[g]?=some (.cells #[u0,u1,u2,u3,u4,u5,u6,u7,u8,u9,u10,c11] T (0,0)):=heap_setCell_same _ g 10 _ T u10 h9
 have h11:((((((((((((w.setCell ⟨g,0,none⟩ u0).setCell ⟨g,1,none⟩ u1).setCell ⟨g,2,none⟩ u2).setCell ⟨g,3,none⟩ u3).setCell ⟨g,4,none⟩ u4).setCell ⟨g,5,none⟩ u5).setCell ⟨g,6,none⟩ u6).setCell ⟨g,7,none⟩ u7).setCell ⟨g,8,none⟩ u8).setCell ⟨g,9,none⟩ u9).setCell ⟨g,10,none⟩ u10).setCell ⟨g,11,none⟩ u11).heap[g]?=some (.cells #[u0,u1,u2,u3,u4,u5,u6,u7,u8,u9,u10,u11] T (0,0)):=heap_setCell_same _ g 11 _ T u11 h10
 exact h11
theorem row12_below (w:World) (g B:Nat) (hB:B≤g) (u0 u1 u2 u3 u4 u5 u6 u7 u8 u9 u10 u11:Value):Below B w ((((((((((((w.setCell ⟨g,0,none⟩ u0).setCell ⟨g,1,none⟩ u1).setCell ⟨g,2,none⟩ u2).setCell ⟨g,3,none⟩ u3).setCell ⟨g,4,none⟩ u4).setCell ⟨g,5,none⟩ u5).setCell ⟨g,6,none⟩ u6).setCell ⟨g,7,none⟩ u7).setCell ⟨g,8,none⟩ u8).setCell ⟨g,9,none⟩ u9).setCell ⟨g,10,none⟩ u10).setCell ⟨g,11,none⟩ u11):=(((((((((((((Below.refl B w).setCell (p:=⟨g,0,none⟩) hB u0).setCell (p:=⟨g,1,none⟩) hB u1).setCell (p:=⟨g,2,none⟩) hB u2).setCell (p:=⟨g,3,none⟩) hB u3).setCell (p:=⟨g,4,none⟩) hB u4).setCell (p:=⟨g,5,none⟩) hB u5).setCell (p:=⟨g,6,none⟩) hB u6).setCell (p:=⟨g,7,none⟩) hB u7).setCell (p:=⟨g,8,none⟩) hB u8).setCell (p:=⟨g,9,none⟩) hB u9).setCell (p:=⟨g,10,none⟩) hB u10).setCell (p:=⟨g,11,none⟩) hB u11)
theorem row12_size (w:World) (g:Nat) (u0 u1 u2 u3 u4 u5 u6 u7 u8 u9 u10 u11:Value):((((((((((((w.setCell ⟨g,0,none⟩ u0).setCell ⟨g,1,none⟩ u1).setCell ⟨g,2,none⟩ u2).setCell ⟨g,3,none⟩ u3).setCell ⟨g,4,none⟩ u4).setCell ⟨g,5,none⟩ u5).setCell ⟨g,6,none⟩ u6).setCell ⟨g,7,none⟩ u7).setCell ⟨g,8,none⟩ u8).setCell ⟨g,9,none⟩ u9).setCell ⟨g,10,none⟩ u10).setCell ⟨g,11,none⟩ u11).heap.size=w.heap.size:=by
 simp only[World.setCell,Array.size_modify]
theorem row12_other (w:World) (g k:Nat) (hk:¬ k=g) (u0 u1 u2 u3 u4 u5 u6 u7 u8 u9 u10 u11:Value):(((((((((((((w.setCell ⟨g,0,none⟩ u0).setCell ⟨g,1,none⟩ u1).setCell ⟨g,2,none⟩ u2).setCell ⟨g,3,none⟩ u3).setCell ⟨g,4,none⟩ u4).setCell ⟨g,5,none⟩ u5).setCell ⟨g,6,none⟩ u6).setCell ⟨g,7,none⟩ u7).setCell ⟨g,8,none⟩ u8).setCell ⟨g,9,none⟩ u9).setCell ⟨g,10,none⟩ u10).setCell ⟨g,11,none⟩ u11).heap)[k]?=w.heap[k]?:=by
 simp only[heap_setCell_other _ _ _ _ (show k≠(Addr.mk g _ none).block from hk)]
end Go.Proofs.YthcmkpiajkbpnaaGreatDoor
namespace Go.Proofs.YthcmkpiajkbpnaaGreatDoor
open Go.RowKit
def setAll (w:World) (g:Nat):List (Nat × Value)→World
 | []=>w
 | x :: r=>setAll (w.setCell ⟨g,x.1,none⟩ x.2) g r
def putAll (cs:List Value):List (Nat × Value)→List Value
 | []=>cs
 | x :: r=>putAll (cs.set x.1 x.2) r
theorem setAll_row {g:Nat} {T:TypeId}:∀ (L:List (Nat × Value)) (w:World) (cs:List Value),w.heap[g]?=some (.cells cs.toArray T (0,0))→(setAll w g L).heap[g]?=some (.cells (putAll cs L).toArray T (0,0))
 | [],_,_,h=>h
 | x :: r,w,cs,h=>setAll_row r _ (cs.set x.1 x.2) (by
  have h2:=heap_setCell_same w g x.1 _ T x.2 h
  rw[List.setIfInBounds_toArray] at h2
  exact h2)
theorem setAll_other {g k:Nat} (hk:¬ k=g):∀ (L:List (Nat × Value)) (w:World),(setAll w g L).heap[k]?=w.heap[k]?
 | [],_=>rfl
 | _ :: r,w=>(setAll_other hk r _).trans (heap_setCell_other w _ _ _ hk)
theorem setAll_size {g:Nat}:∀ (L:List (Nat × Value)) (w:World),(setAll w g L).heap.size=w.heap.size
 | [],_=>rfl
 | _ :: r,_=>(setAll_size r _).trans (by simp[World.setCell])
theorem setAll_rest {g:Nat}:∀ (L:List (Nat × Value)) (w:World),(setAll w g L).os=w.os∧(setAll w g L).tape=w.tape∧(setAll w g L).output=w.output
 | [],_=>⟨rfl,rfl,rfl⟩
 | _ :: r,_=>setAll_rest r _
theorem setAll_below {g B:Nat} (hB:B≤g):∀ (L:List (Nat × Value)) (w:World),Below B w (setAll w g L)
 | [],_=>Below.refl _ _
 | x :: r,w=>((Below.refl B w).setCell (p:=⟨g,x.1,none⟩) hB _).trans (setAll_below hB r _)
end Go.Proofs.YthcmkpiajkbpnaaGreatDoor

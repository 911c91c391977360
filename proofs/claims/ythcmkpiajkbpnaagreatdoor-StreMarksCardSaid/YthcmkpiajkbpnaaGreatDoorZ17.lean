/- Parts of the proof, put together from smaller texts (blanks that Lean does not want are struck). Conditions: those that each theorem writes out. -/
import Derived.Laws.Cover4
import Derived.Lib.TrimUEq
import Derived.Shelf.GgClosure.StringsTrimFunc
import Derived.Shelf.Strings.SlTrimAscii
import Derived.Test.YthcmkpiajkbpnaaGreatDoorZ00
import Derived.Test.YthcmkpiajkbpnaaGreatDoorZ03
import Derived.Test.YthcmkpiajkbpnaaGreatDoorZ04
namespace Go.Proofs.YthcmkpiajkbpnaaGreatDoor.U
open Go.Lib
def whR (x:Nat):Bool:=white (x:Int)
theorem whR_iff (x:Nat):whR x=true↔x=32∨x=9:=by
 unfold whR white
 rw[decide_eq_true_eq]
 omega
theorem whR_byte (b:UInt8):whR b.toNat=wh b:=rfl
theorem dec_low (m:List UInt8) (h:(decodeL m).1<128):(m.getD 0 0).toNat<128∧(decodeL m).2=1:=by
 rw[decodeL_N] at h ⊢
 rcases decodeN_shape m.length (m.getD 0 0).toNat (m.getD 1 0).toNat (m.getD 2 0).toNat (m.getD 3 0).toNat with ⟨c,e⟩|⟨c1,c2,c3,cv,e⟩|⟨c1,c2,c3,c4,cv,cs,e⟩|⟨c1,c2,c3,c4,c5,cv,cw,e⟩|e
 ·rw[e];exact ⟨c,rfl⟩
 all_goals (rw[e] at h;dsimp only at h;exfalso;omega)
theorem getD_some (l:List UInt8) (i:Nat) (h:i<l.length):l[i]?=some (l.getD i 0):=by
 simp[List.getD,List.getElem?_eq_getElem h]
theorem go_width (s:ByteArray) (i:Nat) (h:i<s.size):(decodeGoB (s.extract i s.size)).2=(decodeL (s.data.toList.drop i)).2:=by
 have he:(s.extract i s.size).data.toList=s.data.toList.drop i:=by
  rw[extract_data,List.take_of_length_le]
  rw[List.length_drop,←size_eq]
  exact Nat.le_refl _
 have hsz:(s.extract i s.size).size≠0:=by
  rw[size_eq,he,List.length_drop,←size_eq]
  omega
 rw[←he]
 show (decodeGo (s.extract i s.size)).2=_
 unfold decodeGo
 rw[if_neg hsz,←decodeL_drop,List.drop_zero]
theorem trim_from (s:ByteArray):∀ (f i:Nat),i≤s.size→i≤f→OpenAt s.data.toList i→(∀ (j:Nat) b,i≤j→s.data.toList[j]?=some b→wh b=true) →
  tCut s.data.toList=s.data.toList.take (if 0≤lastIdxFuncFrom whR false s f i then (lastIdxFuncFrom whR false s f i).toNat+(decodeGoB (s.extract (lastIdxFuncFrom whR false s f i).toNat s.size)).2 else 0):=by
 intro f
 have zero:∀ i,i=0→(∀ (j:Nat) b,i≤j→s.data.toList[j]?=some b→wh b=true)→tCut s.data.toList=s.data.toList.take (if (0:Int)≤-1 then (-1:Int).toNat+(decodeGoB (s.extract (-1:Int).toNat s.size)).2 else 0):=by
  intro i hi h
  subst hi
  rw[if_neg (by omega)]
  exact cut_take _ 0 (Nat.zero_le _) h (fun b h0 _=>absurd h0 (by omega))
 induction f with
 | zero=>
  intro i hi hf ho hw
  exact zero i (by omega) hw
 | succ f ih=>
  intro i hi hf ho hw
  by_cases h0:0<i
  ·have hil:i≤s.data.toList.length:=by rw[←size_eq];exact hi
   have hget:=getD_some s.data.toList (i-1) (by omega)
   have hfw:=fw_width s.data.toList i h0 hil ho
   have hwd:=decodeLastL_width (s.data.toList.take i) (by rw[List.length_take];omega)
   rw[List.length_take,Nat.min_eq_left hil] at hwd
   have hlc:=last_cases s.data.toList i h0 hil
   unfold lastIdxFuncFrom
   rw[if_pos h0]
   have stop:∀ R K,decodeLastL (s.data.toList.take i)=(R,K)→whR R=false→wh (s.data.toList.getD (i-1) 0)=false →
     tCut s.data.toList=s.data.toList.take (if 0≤(if whR R=false then ((i-K:Nat):Int) else lastIdxFuncFrom whR false s f (i-K)) then (if whR R=false then ((i-K:Nat):Int) else lastIdxFuncFrom whR false s f (i-K)).toNat+(decodeGoB (s.extract (if whR R=false then ((i-K:Nat):Int) else lastIdxFuncFrom whR false s f (i-K)).toNat s.size)).2 else 0):=by
    intro R K hd hR hb
    rw[hd] at hfw hwd
    rw[if_pos hR,if_pos (by omega),Int.toNat_natCast,go_width s (i-K) (by omega)]
    rw[show (decodeL (s.data.toList.drop (i-K))).2=K from hfw,show i-K+K=i by have:=hwd.2;omega]
    refine cut_take _ i hil hw (fun b _ hb2=>?_)
    rw[hget] at hb2
    obtain rfl:=Option.some.inj hb2
    exact hb
   rcases hlc with ⟨ha,hd⟩|⟨ha,hd⟩|⟨ha,st,hst,hd,hsum⟩
   ·cases hb:wh (s.data.toList.getD (i-1) 0) with
    | false=>
     have:=stop _ _ hd (by rw[whR_byte];exact hb) hb
     rw[hd]
     exact this
    | true=>
     rw[hd]
     dsimp only
     rw[whR_byte,hb]
     simp only[Bool.true_eq_false,if_false]
     refine ih (i-1) (by omega) (by omega) (.inr (by omega)) (fun j b hj hb2=>?_)
     by_cases hji:j=i-1
     ·subst hji
      rw[hget] at hb2
      obtain rfl:=Option.some.inj hb2
      exact hb
     ·exact hw j b (by omega) hb2
   ·have:=stop 65533 1 hd (by decide) (wh_high ha)
    rw[hd]
    exact this
   ·obtain ⟨R,hR⟩:∃ R,(decodeL ((s.data.toList.take i).drop st)).1=R:=⟨_,rfl⟩
    obtain ⟨K,hK⟩:∃ K,(decodeL ((s.data.toList.take i).drop st)).2=K:=⟨_,rfl⟩
    have hp:decodeL ((s.data.toList.take i).drop st)=(R,K):=by rw[←hR,←hK]
    have hw2:whR R=false:=by
     cases hh:whR R with
     | false=>rfl
     | true=>
      have hlt:R<128:=by rcases (whR_iff R).1 hh with rfl|rfl <;> omega
      have h2:=dec_low ((s.data.toList.take i).drop st) (by rw[hR];exact hlt)
      have hK1:K=1:=by rw[←hK];exact h2.2
      rw[hK,hK1] at hsum
      have h3:=h2.1
      rw[getD_dropU,Nat.add_zero,getD_takeU _ _ _ hst,show st=i-1 by omega] at h3
      omega
    have:=stop R K (by rw[hd,hp]) hw2 (wh_high ha)
    rw[hd,hp]
    exact this
  ·have e:lastIdxFuncFrom whR false s (f+1) i=-1:=by
    rw[show i=0 by omega];exact lastIdxFuncFrom_zero _ _ _ _
   rw[e]
   exact zero i (by omega) hw
theorem trim_cut (s:ByteArray):trimRightF whR s=⟨(tCut s.data.toList).toArray⟩:=by
 have h:=trim_from s s.size s.size (Nat.le_refl _) (Nat.le_refl _) (.inl (by rw[←size_eq])) (fun j b hj hb=>by
  have:=(List.getElem?_eq_some_iff.1 hb).1
  rw[←size_eq] at this
  omega)
 rw[h]
 unfold trimRightF rightEndF lastIdxFunc
 apply ByteArray.ext
 rw[←Array.toList_inj,extract_data,List.drop_zero,Nat.sub_zero]
end Go.Proofs.YthcmkpiajkbpnaaGreatDoor.U
namespace Go.Proofs.YthcmkpiajkbpnaaGreatDoor.U
open Go.Lib
theorem run_next (l:List UInt8) (k d:Nat) (h:∀ b∈(l.drop k).take d,wh b=false) :
  (l.drop k).takeWhile nw=(l.drop k).take d++(l.drop (k+d)).takeWhile nw∧(l.drop k).dropWhile nw=(l.drop (k+d)).dropWhile nw:=by
 have e:l.drop k=(l.drop k).take d++l.drop (k+d):=by rw[←List.drop_drop,List.take_append_drop]
 have hp:∀ b∈(l.drop k).take d,nw b=true:=fun b hb=>(nw_iff b).2 (h b hb)
 constructor
 ·conv=>lhs;rw[e]
  exact List.takeWhile_append_of_pos hp
 ·conv=>lhs;rw[e]
  exact List.dropWhile_append_of_pos hp
theorem mem_take_get {m:List UInt8} {n:Nat} {b:UInt8} (h:b∈m.take n):∃ j,j<n∧b=m.getD j 0:=by
 obtain ⟨j,hj,e⟩:=List.mem_iff_getElem.1 h
 rw[List.length_take] at hj
 refine ⟨j,by omega,?_⟩
 rw[List.getElem_take] at e
 rw[←e]
 simp[List.getD,List.getElem?_eq_getElem (show j<m.length by omega)]
set_option maxRecDepth 100000 in
theorem rune_high (m:List UInt8) (h:128≤(decodeL m).1):∀ b∈m.take (decodeL m).2,wh b=false:=by
 intro b hb
 obtain ⟨j,hj,rfl⟩:=mem_take_get hb
 refine wh_high ?_
 clear hb
 rw[decodeL_N] at h hj
 have k0:=(m.getD 0 0).toNat_lt
 rcases decodeN_shape m.length (m.getD 0 0).toNat (m.getD 1 0).toNat (m.getD 2 0).toNat (m.getD 3 0).toNat with ⟨c,e⟩|⟨c1,c2,c3,cv,e⟩|⟨c1,c2,c3,c4,cv,cs,e⟩|⟨c1,c2,c3,c4,c5,cv,cw,e⟩|e
 ·rw[e] at h
  dsimp only at h
  omega
 ·rw[e] at hj
  dsimp only at hj
  rcases (show j=0∨j=1 by omega) with rfl|rfl <;> omega
 ·rw[e] at hj
  dsimp only at hj
  rcases (show j=0∨j=1∨j=2 by omega) with rfl|rfl|rfl <;> omega
 ·rw[e] at hj
  dsimp only at hj
  rcases (show j=0∨j=1∨j=2∨j=3 by omega) with rfl|rfl|rfl|rfl <;> omega
 ·rw[e] at hj
  dsimp only at hj
  obtain rfl:j=0:=by omega
  refine Decidable.byContradiction fun hn=>?_
  rw[decodeN_ascii _ _ _ _ _ (by omega)] at h
  dsimp only at h
  omega
theorem stop_here {l:List UInt8} {k:Nat} {b:UInt8} (hd:l.drop k=b :: l.drop (k+1)) (hw:wh b=true):(l.drop k).takeWhile nw=[]∧(l.drop k).dropWhile nw=l.drop k:=by
 have hn:¬ nw b=true:=fun h=>by rw[(nw_iff b).1 h] at hw;exact absurd hw (by decide)
 rw[hd,List.takeWhile_cons,if_neg hn,List.dropWhile_cons,if_neg hn]
 exact ⟨rfl,rfl⟩
end Go.Proofs.YthcmkpiajkbpnaaGreatDoor.U
namespace Go.Proofs.YthcmkpiajkbpnaaGreatDoor
open Go.RowKit
theorem ext_mk (s:ByteArray) (a b:Nat):s.extract a b=⟨((s.data.toList.drop a).take (b-a)).toArray⟩:=by
 apply ByteArray.ext
 rw[←Array.toList_inj,Lib.extract_data]
set_option maxRecDepth 100000 in
theorem direWhite_is (q:Bool) (x:Nat) (w:World) (h:U.white (x:Int)=q) :
  Calls Tryz.prog 81 #[.int .i32 (x:Int)] w fun e w'=>e=.returned (.bool q)∧w=w':=by
 by_cases hl:x<128
 ·have HQ:=Lib.hid h
  clear h
  go_enter Tryz.func81,Tryz.ntmps81
  go_wp2_with fail
  refine (White_is q _ _ HQ.out).mono ?_
  rintro e w' ⟨rfl,rfl⟩
  go_wp2
  go_ret
  exact ⟨rfl,rfl⟩
 ·have hq:q=false:=by
   rw[←h];unfold U.white;rw[decide_eq_false_iff_not];omega
  subst hq
  clear h
  go_enter Tryz.func81,Tryz.ntmps81
  go_wp2
  go_ret
  exact ⟨rfl,rfl⟩
theorem ext_drop (s:ByteArray) (k:Nat):s.extract k s.size=⟨(s.data.toList.drop k).toArray⟩:=by
 rw[ext_mk,List.take_of_length_le (by rw[List.length_drop,←Lib.size_eq];omega)]
theorem below_dr {B:Nat} {a w:World} (h:Below B a w) (q:Nat):Below B a (w.drewN q):=⟨h.os,h.tape,h.output,h.size,h.block⟩
theorem direWhite_pred (w:World):PredAt Tryz.prog 81 #[] encR U.whR w:=by
 intro W x _
 exact (direWhite_is (U.whR x) x W rfl).mono (by rintro e w' ⟨rfl,rfl⟩;exact ⟨rfl,0,rfl⟩)
theorem step_white (s:ByteArray) (k:Nat) (h:k<s.size):∃ b:UInt8,s.data.toList.drop k=b :: s.data.toList.drop (k+1) ∧
  (U.whR (Utf8.decode s k).1=true→U.wh b=true∧(Utf8.decode s k).2=1) ∧
  (U.whR (Utf8.decode s k).1=false→U.wh b=false∧∀ c∈(s.data.toList.drop k).take (Utf8.decode s k).2,U.wh c=false):=by
 obtain ⟨b,hd,hb⟩:=drop_byte s k h
 refine ⟨b,hd,fun hw=>?_,fun hw=>?_⟩
 ·rcases decode_low s k h with ⟨hl,h1,h2⟩|⟨hl,h1⟩
  ·exact ⟨by rw[←hw,h1,←hb];rfl,h2⟩
  ·have:=(U.whR_iff _).1 hw
   omega
 ·rcases decode_low s k h with ⟨hl,h1,h2⟩|⟨hl,h1⟩
  ·have hwb:U.wh b=false:=by rw[←hw,h1,←hb];rfl
   refine ⟨hwb,?_⟩
   rw[h2,hd]
   intro c hc
   have:c=b:=by simpa using hc
   rw[this];exact hwb
  ·have hr:=U.rune_high (s.data.toList.drop k) (by rw[Lib.decodeL_drop];exact h1)
   rw[Lib.decodeL_drop] at hr
   exact ⟨U.wh_high (by rw[hb];exact hl),hr⟩
theorem left_from (s:ByteArray):∀ (f k:Nat),s.size≤k+f →
  U.tLeft (s.data.toList.drop k)=if Lib.idxFuncFrom U.whR false s f k=-1 then [] else s.data.toList.drop (Lib.idxFuncFrom U.whR false s f k).toNat:=by
 intro f
 induction f with
 | zero=>
  intro k h
  rw[List.drop_eq_nil_of_le (by rw[←Lib.size_eq];omega)]
  show _=if (-1:Int)=-1 then _ else _
  rw[if_pos rfl]
  rfl
 | succ f ih=>
  intro k h
  unfold Lib.idxFuncFrom
  by_cases hk:k<s.size
  ·rw[if_pos hk]
   obtain ⟨b,hd,ht,hf⟩:=step_white s k hk
   cases hw:U.whR (Utf8.decode s k).1 with
   | true=>
    obtain ⟨hb,h1⟩:=ht hw
    rw[if_neg (show ¬ true=false by decide),h1,hd,U.left_white _ hb]
    exact ih (k+1) (by omega)
   | false=>
    rw[if_pos rfl,if_neg (by omega),Int.toNat_natCast]
    conv=>lhs;rw[hd,U.left_here _ (hf hw).1]
    rw[hd]
  ·rw[if_neg hk,if_pos rfl,List.drop_eq_nil_of_le (by rw[←Lib.size_eq];omega)]
   rfl
theorem left_cut (s:ByteArray):Lib.trimLeftF U.whR s=⟨(U.tLeft s.data.toList).toArray⟩:=by
 have h:=left_from s s.size 0 (by omega)
 rw[List.drop_zero] at h
 rw[h]
 unfold Lib.trimLeftF Lib.idxFunc
 split
 ·rfl
 ·exact ext_drop s _
theorem direLeft_is (T s:ByteArray) (w:World) (h:(⟨(U.tLeft s.data.toList).toArray⟩:ByteArray)=T) :
  Calls Tryz.prog 112 #[.string s,.func (.func 81) #[] #[]] w fun e w'=>e=.returned (.string T)∧Below w.heap.size w w':=by
 have:=Tryz.strings_TrimLeftFunc 81 #[] Tryz.call81 U.whR s w (direWhite_pred w)
 rw[left_cut,h] at this
 exact this
set_option maxRecDepth 100000 in
set_option maxHeartbeats 1600000 in
theorem direWord_is (f r:List UInt8) (s:ByteArray) (w:World) (hs:s.size≤1099511627776) (h:U.tFst s.data.toList=(f,r)) :
  Calls Tryz.prog 83 #[.string s] w fun e w'=>e=.returned (.tuple #[.string ⟨f.toArray⟩,.string ⟨r.toArray⟩])∧Below w.heap.size w w':=by
 obtain ⟨t,ht⟩:∃ t:ByteArray,(⟨(U.tLeft s.data.toList).toArray⟩:ByteArray)=t:=⟨_,rfl⟩
 have htd:t.data.toList=U.tLeft s.data.toList:=by rw[←ht]
 have hts:t.size≤1099511627776:=by
  have:=U.left_len s.data.toList
  rw[Lib.size_eq,htd]
  rw[Lib.size_eq] at hs
  omega
 have HQ:Hid (f=t.data.toList.takeWhile U.nw∧r=t.data.toList.dropWhile U.nw):=by
  rw[htd]
  obtain ⟨rfl,rfl⟩:=Prod.mk.inj h
  exact ⟨rfl,rfl⟩
 have HT:=Lib.hid ht
 clear h ht htd hs
 go_enter Tryz.func83,Tryz.ntmps83
 go_wp2_with fail
 refine (direLeft_is t s _ HT.out).mono ?_
 rintro e w1 ⟨rfl,hb1⟩
 have hb0:∀ pos,Below w.heap.size w (w1.iter t pos):=fun pos=>hb1.alloc hb1.size _
 go_wp2
 go_loopw [] (fun w'=>∃ k:Nat,w'=w1.iter t k∧k≤t.size∧Hid (f=t.data.toList.take k++(t.data.toList.drop k).takeWhile U.nw∧r=(t.data.toList.drop k).dropWhile U.nw)) (fun w'=>t.size-w'.iterPos w1.heap.size)
 case atStart=>exact ⟨0,rfl,Nat.zero_le _,by show _;rw[List.take_zero,List.drop_zero,List.nil_append];exact HQ.out⟩
 case round=>
  obtain ⟨k,rfl,hk,H⟩:=hrel
  by_cases hk2:k<t.size
  ·have hnx:∀ ty,(Instr.next (.pointer (some ⟨w1.heap.size,0,none⟩)) true ty).run Tryz.prog (w1.iter t k)=_:=fun ty=>run_next_any w1 t k ty hk2
   have hwd:=dec_pos t k
   have hle:=dec_le t k hk2
   obtain ⟨b,hd,hwt,hrn⟩:=step_white t k hk2
   obtain ⟨x,hx⟩:∃ x:Nat,x=(Utf8.decode t k).1:=⟨_,rfl⟩
   obtain ⟨d,hdd⟩:∃ d:Nat,d=(Utf8.decode t k).2:=⟨_,rfl⟩
   rw[←hx,←hdd] at hnx
   rw[←hx,←hdd] at hwt hrn
   rw[←hdd] at hwd hle
   clear hx hdd HQ
   have HD:=Lib.hid hd
   clear hd
   cases hw:U.whR x with
   | true=>
    obtain ⟨hwb,rfl⟩:=hwt hw
    have HW:=Lib.hid (show U.white (x:Int)=true from hw)
    have HB:=Lib.hid hwb
    clear hw hrn hwt hwb
    go_wp2_with fail
    refine (direWhite_is true x _ HW.out).mono ?_
    rintro e w2 ⟨rfl,rfl⟩
    go_wp2
    go_quiet (fail)
    go_wp2
    go_ret2
    obtain ⟨e1,e2⟩:=H.out
    obtain ⟨t1,t2⟩:=U.stop_here HD.out HB.out
    rw[t1,List.append_nil] at e1
    rw[t2] at e2
    have g1:t.extract 0 k=⟨f.toArray⟩:=by rw[ext_mk,e1,List.drop_zero,Nat.sub_zero]
    have g2:t.extract k t.size=⟨r.toArray⟩:=by rw[e2];exact ext_drop t k
    refine ⟨?_,below_dr (hb0 _) _⟩
    rw[←g1,←g2]
    rfl
   | false=>
    obtain ⟨hwb,hr⟩:=hrn hw
    obtain ⟨n1,n2⟩:=U.run_next t.data.toList k d hr
    have HW:=Lib.hid (show U.white (x:Int)=false from hw)
    have HN1:=Lib.hid n1
    have HN2:=Lib.hid n2
    clear hw hrn hwt hwb hr n1 n2
    go_wp2_with fail
    refine (direWhite_is false x _ HW.out).mono ?_
    rintro e w2 ⟨rfl,rfl⟩
    go_wp2
    go_roundw
    case rel=>
     refine ⟨k+d,rfl,by omega,?_⟩
     obtain ⟨e1,e2⟩:=H.out
     refine ⟨?_,by rw[e2];exact HN2.out⟩
     rw[e1,HN1.out,←List.append_assoc,List.take_add]
    case measure=>simp;omega
  ·have hnx:∀ ty,(Instr.next (.pointer (some ⟨w1.heap.size,0,none⟩)) true ty).run Tryz.prog (w1.iter t k)=_:=fun ty=>run_next_end w1 t k ty hk2
   have hdk:t.data.toList.drop k=[]:=List.drop_eq_nil_of_le (by rw[←Lib.size_eq];omega)
   have h2:=H.out
   rw[hdk,show ([]:List UInt8).takeWhile U.nw=[] from rfl,show ([]:List UInt8).dropWhile U.nw=[] from rfl,List.append_nil,List.take_of_length_le (by rw[←Lib.size_eq];omega)] at h2
   obtain ⟨rfl,rfl⟩:=h2
   clear hdk
   go_wp2
   go_ret2
   exact ⟨rfl,hb0 k⟩
end Go.Proofs.YthcmkpiajkbpnaaGreatDoor
namespace Go.Proofs.YthcmkpiajkbpnaaGreatDoor
open Go.RowKit
theorem mk_size (l:List UInt8):(⟨l.toArray⟩:ByteArray).size=l.length:=by simp[ByteArray.size]
theorem mk_data (l:List UInt8):(⟨l.toArray⟩:ByteArray).data.toList=l:=by simp
def strLen:Value→Nat
 | .string s=>s.size
 | _=>0
set_option maxRecDepth 100000 in
set_option maxHeartbeats 1600000 in
theorem direSplit_is (W:List (List UInt8)) (N:List UInt8) (s:ByteArray) (w:World) (hs:s.size≤1000000000) (h:U.tWords (U.tNote true s.data.toList).1=W∧(U.tNote true s.data.toList).2=N) :
  Calls Tryz.prog 76 #[.string s] w fun e w'=>∃ v,e=.returned (.tuple #[v,.string ⟨N.toArray⟩])∧OutT w.heap.size w' v W∧Below w.heap.size w w':=by
 have hn:W.length≤s.size:=by
  rw[←h.1]
  have h1:=U.words_count (U.tNote true s.data.toList).1 []
  have h2:=congrArg List.length (U.note_cat s.data.toList true)
  rw[List.length_append] at h2
  rw[Lib.size_eq]
  simp only[List.length_nil] at h1
  unfold U.tWords
  omega
 have HN:=Lib.hid hn
 have HQ:=Lib.hid h
 clear h hn
 go_enter Tryz.func76,Tryz.ntmps76
 go_wp2
 go_loopw [0,2] (fun vs vw wr=>∃ (t:ByteArray) (ws:List (List UInt8)),vs=.string t∧t.size≤s.size∧OutT w.heap.size wr vw ws∧Below w.heap.size w wr∧Hid (ws++U.tWords (U.tNote true t.data.toList).1=W∧(U.tNote true t.data.toList).2=N)) (fun vs _ _=>strLen vs)
 case atStart=>exact ⟨s,[],rfl,Nat.le_refl _,OutT.nil _ _,Below.refl _ _,by show _;exact ⟨by rw[List.nil_append,HQ.out.1],HQ.out.2⟩⟩
 case round=>
  obtain ⟨t,ws,rfl,ht,ho,hb,H⟩:=hrel
  obtain ⟨T,hT⟩:∃ T:ByteArray,(⟨(U.tLeft t.data.toList).toArray⟩:ByteArray)=T:=⟨_,rfl⟩
  have hTd:T.data.toList=U.tLeft t.data.toList:=by rw[←hT]
  have hTs:T.size≤t.size:=by rw[Lib.size_eq,hTd,Lib.size_eq];exact U.left_len _
  have HL:=Lib.hid hT
  obtain ⟨f,r,hfr⟩:∃ f r,U.tWord t.data.toList=(f,r):=⟨_,_,rfl⟩
  obtain ⟨s1,s2⟩:=U.split_step _ _ _ hfr
  obtain ⟨e1,e2⟩:=H.out
  clear hT H
  by_cases hstop:U.tLeft t.data.toList=[]∨(U.tLeft t.data.toList).headD 0=35
  ·have hw:=U.word_note _ hstop
   rw[hfr] at hw
   obtain ⟨rfl,rfl⟩:=Prod.mk.inj hw
   obtain ⟨k1,k2⟩:=s1 rfl
   rw[k1,List.append_nil] at e1
   rw[k2,←hTd] at e2
   rw[←hTd] at hstop
   have hN:T=⟨N.toArray⟩:=by rw[←e2]
   subst e1
   have HE:=Lib.hid hN
   clear s1 s2 k1 k2 hw hfr hTd e2 hN
   by_cases he:T.data.toList=[]
   ·have he2:T.toList.isEmpty=true:=by rw[Lib.toList_data,he];rfl
    clear hstop he
    go_wp2_with fail
    refine (direLeft_is T t _ HL.out).mono ?_
    rintro e w1 ⟨rfl,hb1⟩
    go_wp2
    go_ret2
    refine ⟨_,?_,ho.below hb1,hb.trans (hb1.mono hb.size)⟩
    rw[←HE.out]
    rfl
   ·have he2:T.toList.isEmpty=false:=by rw[Lib.toList_data];cases h:T.data.toList <;> simp_all
    have hTp:0<T.size:=by rw[Lib.size_eq];exact List.length_pos_iff.2 he
    have h35:byt T 0=35:=by
     obtain ⟨b,hd,hbb⟩:=drop_byte T 0 hTp
     rw[List.drop_zero] at hd
     rcases hstop with h|h
     ·exact absurd h he
     ·rw[hd] at h
      rw[←hbb,show b=35 from h]
      rfl
    have hi:=run_byt T 0 hTp 0 rfl
    rw[h35] at hi
    clear hstop he h35
    go_wp2_with fail
    refine (direLeft_is T t _ HL.out).mono ?_
    rintro e w1 ⟨rfl,hb1⟩
    go_wp2
    go_ret2
    refine ⟨_,?_,ho.below hb1,hb.trans (hb1.mono hb.size)⟩
    rw[←HE.out]
    rfl
  ·obtain ⟨hn1,hn2⟩:=not_or.1 hstop
   have hw:=U.word_fst _ hn1 hn2
   have hf:f≠[]:=by
    rcases U.left_head t.data.toList with h|⟨b,l,h,hb⟩
    ·exact absurd h hn1
    ·rw[hw,U.fst_some h hb] at hfr
     rw[←(Prod.mk.inj hfr).1]
     simp
   obtain ⟨k1,k2,k3⟩:=s2 hf
   have hF:U.tFst T.data.toList=(f,r):=by rw[hTd,U.fst_left,←hw,hfr]
   have HF:=Lib.hid hF
   have HK:=Lib.hid k3
   have H2:Hid ((ws++[f])++U.tWords (U.tNote true r).1=W∧(U.tNote true r).2=N):=by
    refine ⟨?_,by rw[←k2];exact e2⟩
    rw[←e1,k1,List.append_assoc]
    rfl
   rw[←hTd] at hn1 hn2
   have he2:T.toList.isEmpty=false:=by rw[Lib.toList_data];cases h:T.data.toList <;> simp_all
   have hTp:0<T.size:=by rw[Lib.size_eq];exact List.length_pos_iff.2 hn1
   have h35:byt T 0≠35:=by
    obtain ⟨b,hd,hbb⟩:=drop_byte T 0 hTp
    rw[List.drop_zero] at hd
    rw[hd] at hn2
    intro h
    rw[←hbb] at h
    exact hn2 (UInt8.toNat_inj.1 h)
   have hi:=run_byt T 0 hTp 0 rfl
   obtain ⟨z,hz⟩:∃ z,byt T 0=z:=⟨_,rfl⟩
   rw[hz] at h35 hi
   have hz2:((z:Int)==35)=false:=by simp;omega
   have hwl:ws.length≤1000000000:=by
    have h1:=congrArg List.length H2.out.1
    have h2:=HN.out
    rw[List.length_append,List.length_append] at h1
    simp only[List.length_cons,List.length_nil] at h1
    omega
   have HWL:=Lib.hid hwl
   clear s1 s2 k1 k2 k3 e1 e2 hwl hw hf hfr hF hstop hn1 hn2 hz h35 hTd
   go_wp2_with fail
   refine (direLeft_is T t _ HL.out).mono ?_
   rintro e w0 ⟨rfl,hb0⟩
   have hbz:=hb.trans (hb0.mono hb.size)
   have hoz:=ho.below hb0
   go_wp2_with fail
   refine (direWord_is f r T _ (by omega) HF.out).mono ?_
   rintro e w1 ⟨rfl,hb1⟩
   go_wp2_with (at_builtin;refine appendOne w1 f rfl _ _ rfl w.heap.size w _ _ rfl rfl (hoz.below hb1) (hbz.trans (hb1.mono hbz.size)) HWL.out (Nat.le_refl _) ?_;intro v2 w2 o2 b2)
   go_roundw
   case rel=>exact ⟨⟨r.toArray⟩,ws++[f],rfl,by rw[mk_size];have:=HK.out;rw[←Lib.size_eq] at this;omega,o2,b2,by show _;rw[mk_data];exact H2.out⟩
   case measure=>show (⟨r.toArray⟩:ByteArray).size<t.size;rw[mk_size,Lib.size_eq];exact HK.out
end Go.Proofs.YthcmkpiajkbpnaaGreatDoor
namespace Go.Proofs.YthcmkpiajkbpnaaGreatDoor
open Go.RowKit
theorem direTag_is (q:Bool) (t:ByteArray) (w:World) (hs:t.size≤1099511627776) (h:decide (U.tSize t.data.toList=t.size)=q) :
  Calls Tryz.prog 159 #[.string t] w fun e w'=>e=.returned (.bool q)∧Below w.heap.size w w':=by
 subst h
 obtain ⟨n,hn⟩:∃ n,n=U.tSize t.data.toList:=⟨_,rfl⟩
 have HN:Hid (hSize t 0=n):=Lib.hid (by rw[hSize_zero,hn])
 rw[←hn]
 clear hn
 by_cases he:n=t.size
 ·have heq:((n:Int)==(t.size:Int))=true:=by simp[he]
  have HE:=Lib.hid (show decide (n=t.size)=true by simp[he])
  clear he
  go_enter Tryz.func159,Tryz.ntmps159
  go_wp2_with fail
  refine (handSize_is n t 0 _ hs HN.out).mono ?_
  rintro e w1 ⟨rfl,hb⟩
  go_wp2
  go_ret
  exact ⟨by rw[HE.out];rfl,hb⟩
 ·have heq:((n:Int)==(t.size:Int))=false:=by simp;omega
  have HE:=Lib.hid (show decide (n=t.size)=false by simp[he])
  clear he
  go_enter Tryz.func159,Tryz.ntmps159
  go_wp2_with fail
  refine (handSize_is n t 0 _ hs HN.out).mono ?_
  rintro e w1 ⟨rfl,hb⟩
  go_wp2
  go_ret
  exact ⟨by rw[HE.out];rfl,hb⟩
theorem trimDig (s:ByteArray) (w:World) (hs:s.size≤9223372036854775807) :
  Calls Tryz.prog 157 #[.string s,.string ⟨#[48,49,50,51,52,53,54,55,56,57]⟩] w fun e w'=>e=.returned (.string ⟨(Lib.trimS s.data.toList [48,49,50,51,52,53,54,55,56,57]).toArray⟩)∧Below w.heap.size w w':=
 Any.strings_Trim_laid Tryz.lays160 (by kernel_rfl) s ⟨#[48,49,50,51,52,53,54,55,56,57]⟩ w hs (by decide) (ascii_of_all (by decide))
theorem direVer_is (q:Bool) (s:ByteArray) (w:World) (hs:s.size≤1099511627776) (h:U.tVer s.data.toList=q) :
  Calls Tryz.prog 114 #[.string s] w fun e w'=>e=.returned (.bool q)∧Below w.heap.size w w':=by
 subst h
 have cC:=fun w=>Tryz.strings_CutPrefix s ⟨#[49,46]⟩ w
 have hv:=U.ver_prog s.data.toList
 cases hp:Lib.hasPrefix s.data.toList [49,46] with
 | false=>
  have hq:U.tVer s.data.toList=false:=by rw[hv,hp];rfl
  have HQ:=Lib.hid hq
  obtain ⟨D,hD⟩:∃ D,Lib.trimPrefix s.data.toList [49,46]=D:=⟨_,rfl⟩
  have cC2:∀ w,Calls Tryz.prog 79 #[.string s,.string ⟨#[49,46]⟩] w fun e w'=>e=.returned (.tuple #[.string ⟨D.toArray⟩,.bool false])∧w'=w:=by
   intro w
   have:=cC w
   rw[show (⟨#[49,46]⟩:ByteArray).data.toList=[49,46] from rfl,hp,hD] at this
   exact this
  clear cC hv hp hD hq
  go_enter Tryz.func114,Tryz.ntmps114
  go_wp2_with fail
  refine (cC2 _).mono ?_
  rintro e w1 ⟨rfl,rfl⟩
  go_wp2
  go_ret
  exact ⟨by rw[HQ.out];rfl,Below.refl _ _⟩
 | true=>
  obtain ⟨D,hD⟩:∃ D,s.data.toList.drop 2=D:=⟨_,rfl⟩
  have hD2:Lib.trimPrefix s.data.toList [49,46]=D:=by
   unfold Lib.trimPrefix;rw[hp,if_pos rfl];exact hD
  have hDl:D.length≤s.size:=by rw[←hD,List.length_drop,Lib.size_eq];omega
  have cC2:∀ w,Calls Tryz.prog 79 #[.string s,.string ⟨#[49,46]⟩] w fun e w'=>e=.returned (.tuple #[.string ⟨D.toArray⟩,.bool true])∧w'=w:=by
   intro w
   have:=cC w
   rw[show (⟨#[49,46]⟩:ByteArray).data.toList=[49,46] from rfl,hp,hD2] at this
   exact this
  rw[hp,hD,Bool.true_and] at hv
  clear cC hp hD hD2
  by_cases hne:D=[]
  ·have HQ:Hid (U.tVer s.data.toList=false):=Lib.hid (by rw[hv,hne];rfl)
   subst hne
   clear hv
   go_enter Tryz.func114,Tryz.ntmps114
   go_wp2_with fail
   refine (cC2 _).mono ?_
   rintro e w1 ⟨rfl,rfl⟩
   go_wp2
   go_ret
   exact ⟨by rw[HQ.out];rfl,Below.refl _ _⟩
  ·have hem:D.isEmpty=false:=by cases D <;> simp_all
   rw[hem] at hv
   have HV:Hid (U.tVer s.data.toList=decide (Lib.trimS D [48,49,50,51,52,53,54,55,56,57]=[])):=Lib.hid (by rw[hv];rfl)
   have cT:=fun w=>trimDig ⟨D.toArray⟩ w (by rw[mk_size];omega)
   rw[mk_data] at cT
   obtain ⟨E,hE⟩:∃ E,Lib.trimS D [48,49,50,51,52,53,54,55,56,57]=E:=⟨_,rfl⟩
   have HV2:Hid (U.tVer s.data.toList=decide (E=[])):=Lib.hid (by rw[←hE];exact HV.out)
   rw[hE] at cT
   clear hv HV hE
   by_cases hEn:E=[]
   ·have HQ:Hid (U.tVer s.data.toList=true):=Lib.hid (by rw[HV2.out];simp[hEn])
    subst hEn
    clear HV2
    go_enter Tryz.func114,Tryz.ntmps114
    go_wp2_with fail
    refine (cC2 _).mono ?_
    rintro e w1 ⟨rfl,rfl⟩
    go_wp2_with fail
    refine (cT _).mono ?_
    rintro e w2 ⟨rfl,hb⟩
    go_wp2
    go_ret
    exact ⟨by rw[HQ.out];rfl,hb⟩
   ·have HQ:Hid (U.tVer s.data.toList=false):=Lib.hid (by rw[HV2.out];simp[hEn])
    have hem2:E.isEmpty=false:=by cases E <;> simp_all
    clear HV2
    go_enter Tryz.func114,Tryz.ntmps114
    go_wp2_with fail
    refine (cC2 _).mono ?_
    rintro e w1 ⟨rfl,rfl⟩
    go_wp2_with fail
    refine (cT _).mono ?_
    rintro e w2 ⟨rfl,hb⟩
    go_wp2
    go_ret
    exact ⟨by rw[HQ.out];rfl,hb⟩
theorem direHan_is (q:Bool) (s:ByteArray) (w:World) (hs:s.size≤1000000000) (h:U.tHan s.data.toList=q) :
  Calls Tryz.prog 115 #[.string s] w fun e w'=>e=.returned (.bool q)∧Below w.heap.size w w':=by
 subst h
 have cS:=fun w=>Tryz.strings_HasSuffix s ⟨#[33]⟩ w (by omega)
 rw[show (⟨#[33]⟩:ByteArray).data.toList=[33] from rfl] at cS
 have hi:=U.han_iff s.data.toList
 obtain ⟨t,ht⟩:∃ t,s++(⟨#[97]⟩:ByteArray)=t:=⟨_,rfl⟩
 have hts:t.size=s.size+1:=by rw[←ht,ByteArray.size_append];rfl
 have htd:t.data.toList=s.data.toList++[97]:=by rw[←ht,cat_data]
 rw[←htd,←Lib.size_eq,←hts] at hi
 cases hp:Lib.hasSuffix s.data.toList [33] with
 | false=>
  have HQ:Hid (U.tHan s.data.toList=false):=Lib.hid (by
   cases hh:U.tHan s.data.toList with
   | false=>rfl
   | true=>have:=(hi.2 hh).1;rw[hp] at this;exact absurd this (by decide))
  rw[hp] at cS
  clear hi hp htd hts
  go_enter Tryz.func115,Tryz.ntmps115
  go_wp2_with fail
  refine (cS _).mono ?_
  rintro e w1 ⟨rfl,rfl⟩
  go_wp2
  go_ret
  exact ⟨by rw[HQ.out];rfl,Below.refl _ _⟩
 | true=>
  have HQ:Hid (decide (U.tSize t.data.toList=t.size)=U.tHan s.data.toList):=Lib.hid (by
   rw[hp] at hi
   cases hh:U.tHan s.data.toList with
   | false=>
    rw[hh] at hi
    exact decide_eq_false (fun e=>absurd (hi.1 ⟨rfl,e⟩) (by decide))
   | true=>exact decide_eq_true (hi.2 hh).2)
  rw[hp] at cS
  have HT:=Lib.hid (show t.size≤1099511627776 by omega)
  clear hi hp htd hts
  go_enter Tryz.func115,Tryz.ntmps115
  go_wp2_with fail
  refine (cS _).mono ?_
  rintro e w1 ⟨rfl,rfl⟩
  go_wp2_with fail
  refine (direTag_is _ t _ HT.out HQ.out).mono ?_
  rintro e w1 ⟨rfl,hb⟩
  go_wp2
  go_ret
  exact ⟨rfl,hb⟩
theorem direPfx_is (q:Bool) (s:ByteArray) (w:World) (hs:s.size≤1000000000) (hn:s.data.toList≠[]) (h:U.tPfx s.data.toList=q) :
  Calls Tryz.prog 116 #[.string s] w fun e w'=>e=.returned (.bool q)∧Below w.heap.size w w':=by
 subst h
 have h0:0<s.size:=by rw[Lib.size_eq];exact List.length_pos_iff.2 hn
 have hi:=run_byt s 0 h0 0 rfl
 obtain ⟨b,hd,hb⟩:=drop_byte s 0 h0
 have hpi:=U.pfx_iff hn
 obtain ⟨t,ht⟩:∃ t,(⟨#[33,60]⟩:ByteArray)++s++(⟨#[62]⟩:ByteArray)=t:=⟨_,rfl⟩
 have hts:t.size=s.size+3:=by rw[←ht,ByteArray.size_append,ByteArray.size_append];show 2+s.size+1=_;omega
 have htd:t.data.toList=33 :: 60 :: (s.data.toList++[62]):=by rw[←ht,cat_data,cat_data];rfl
 rw[←htd,←Lib.size_eq,←hts] at hpi
 have hhd:s.data.toList.headD 0=b:=by rw[List.drop_zero] at hd;rw[hd];rfl
 obtain ⟨x,hx⟩:∃ x:Nat,x=byt s 0:=⟨_,rfl⟩
 rw[←hx] at hi hb
 have hP:U.tPfx s.data.toList=(!(U.flow (x:Int))&&decide (U.tSize t.data.toList=t.size)):=by
  unfold U.tPfx
  rw[hhd,hb,←Lib.size_eq]
  congr 1
  exact decide_eq_decide.2 hpi.symm
 have HT:=Lib.hid (show t.size≤1099511627776 by omega)
 clear hd hb hpi hts htd hhd hx hn
 cases hf:U.flow (x:Int) with
 | true=>
  have HF:=Lib.hid hf
  have HQ:Hid (U.tPfx s.data.toList=false):=Lib.hid (by rw[hP,hf];rfl)
  clear hP hf
  go_enter Tryz.func116,Tryz.ntmps116
  go_wp2_with fail
  refine (Flow_is true (x:Int) _ HF.out).mono ?_
  rintro e w1 ⟨rfl,rfl⟩
  go_wp2
  go_ret
  exact ⟨by rw[HQ.out];rfl,Below.refl _ _⟩
 | false=>
  have HF:=Lib.hid hf
  have HQ:Hid (decide (U.tSize t.data.toList=t.size)=U.tPfx s.data.toList):=Lib.hid (by rw[hP,hf];rfl)
  clear hP hf
  go_enter Tryz.func116,Tryz.ntmps116
  go_wp2_with fail
  refine (Flow_is false (x:Int) _ HF.out).mono ?_
  rintro e w1 ⟨rfl,rfl⟩
  go_wp2_with fail
  refine (direTag_is _ t _ HT.out HQ.out).mono ?_
  rintro e w1 ⟨rfl,hb⟩
  go_wp2
  go_ret
  exact ⟨rfl,hb⟩
end Go.Proofs.YthcmkpiajkbpnaaGreatDoor
namespace Go.Proofs.YthcmkpiajkbpnaaGreatDoor
open Go.RowKit
theorem getD_len {ls:List (List UInt8)} {k n:Nat} (h:∀ x∈ls,x.length≤n) (hk:k<ls.length):(ls.getD k []).length≤n:=by
 simp only[List.getD,List.getElem?_eq_getElem hk,Option.getD_some]
 exact h _ (List.getElem_mem hk)
theorem getD_ne {ls:List (List UInt8)} {k:Nat} (h:∀ x∈ls,x≠[]) (hk:k<ls.length):ls.getD k []≠[]:=by
 simp only[List.getD,List.getElem?_eq_getElem hk,Option.getD_some]
 exact h _ (List.getElem_mem hk)
set_option maxRecDepth 100000 in
set_option maxHeartbeats 1600000 in
theorem direFormed_is (q:Bool) (B:Nat) (v:Value) (ws:List (List UInt8)) (w:World) (hv:IsTexts B w v ws) (h0:0<ws.length) (hB:B≤w.heap.size) (hn:∀ x∈ws,x≠[]) (hsz:∀ x∈ws,x.length≤1000000000) (h:U.tForm ws=q) :
  Calls Tryz.prog 78 #[v] w fun e w'=>e=.returned (.bool q)∧Below w.heap.size w w':=by
 subst h
 obtain ⟨ao,cap,rfl,k1,m1⟩:=hv.slice
 obtain ⟨bb,oo,rfl,hlt,hc⟩:=IsTexts.at hv rfl h0
 have g0:=hc 0 h0
 rw[Nat.add_zero] at g0
 obtain ⟨L,hL⟩:∃ L,L=ws.length:=⟨_,rfl⟩
 have e1:1<L→∃ x,x=ws.getD 1 []∧w.cell? ⟨bb,oo+1,none⟩=some (.string ⟨x.toArray⟩)∧x.length≤1000000000∧x≠[]:=fun hl=>⟨_,rfl,hc 1 (by omega),getD_len hsz (by omega),getD_ne hn (by omega)⟩
 have e2:2<L→∃ x,x=ws.getD 2 []∧w.cell? ⟨bb,oo+2,none⟩=some (.string ⟨x.toArray⟩)∧x.length≤1000000000∧x≠[]:=fun hl=>⟨_,rfl,hc 2 (by omega),getD_len hsz (by omega),getD_ne hn (by omega)⟩
 have hF:U.tForm ws=if ws.getD 0 []=[37] then false
   else if ws.getD 0 []=U.yamlL then decide (L=2)&&U.tVer (ws.getD 1 [])
   else if ws.getD 0 []=U.tagD then decide (L=3)&&(U.tHan (ws.getD 1 [])&&U.tPfx (ws.getD 2 []))
   else true:=by rw[hL];rfl
 obtain ⟨A,hA⟩:∃ A,A=ws.getD 0 []:=⟨_,rfl⟩
 rw[←hA] at hF g0
 rw[←hL] at h0 k1 ⊢
 clear hc hL hA hv
 by_cases a1:A=[37]
 ·have HQ:Hid (U.tForm ws=false):=Lib.hid (by rw[hF,if_pos a1])
  subst a1
  clear hF e1 e2
  go_enter Tryz.func78,Tryz.ntmps78
  go_wp2
  go_ret
  exact ⟨by rw[HQ.out];rfl,Below.refl _ _⟩
 rw[if_neg a1] at hF
 by_cases a2:A=U.yamlL
 ·rw[if_pos a2] at hF
  subst a2
  by_cases hl:L=2
  ·have HL:=Lib.hid hl
   obtain ⟨x,rfl,g1,x1,x2⟩:=e1 (by omega)
   obtain ⟨X,hX⟩:∃ X,ws.getD 1 []=X:=⟨_,rfl⟩
   rw[hX] at hF g1 x1
   have HQ:Hid (U.tVer (⟨X.toArray⟩:ByteArray).data.toList=U.tForm ws):=Lib.hid (by rw[mk_data,hF,decide_eq_true hl,Bool.true_and])
   subst hl
   clear hF e1 e2 a1 hX x2
   go_enter Tryz.func78,Tryz.ntmps78
   go_wp2_with fail
   refine (direVer_is _ ⟨X.toArray⟩ _ (by rw[mk_size];omega) HQ.out).mono ?_
   rintro e w1 ⟨rfl,hb⟩
   go_wp2
   go_ret
   exact ⟨rfl,hb⟩
  ·have HQ:Hid (U.tForm ws=false):=Lib.hid (by rw[hF,decide_eq_false hl,Bool.false_and])
   have hl2:((L:Int)==2)=false:=by simp;omega
   clear hF e1 e2 a1 hl
   go_enter Tryz.func78,Tryz.ntmps78
   go_wp2
   go_ret
   exact ⟨by rw[HQ.out];rfl,Below.refl _ _⟩
 rw[if_neg a2] at hF
 by_cases a3:A=U.tagD
 ·rw[if_pos a3] at hF
  subst a3
  by_cases hl:L=3
  ·obtain ⟨x,rfl,g1,x1,x2⟩:=e1 (by omega)
   obtain ⟨y,rfl,g2,y1,y2⟩:=e2 (by omega)
   obtain ⟨X,hX⟩:∃ X,ws.getD 1 []=X:=⟨_,rfl⟩
   obtain ⟨Y,hY⟩:∃ Y,ws.getD 2 []=Y:=⟨_,rfl⟩
   rw[hX] at hF g1 x1
   rw[hY] at hF g2 y1 y2
   rw[decide_eq_true hl,Bool.true_and] at hF
   have HY:=Lib.hid y2
   subst hl
   clear e1 e2 a1 a2 hX x2 hY y2
   cases hh:U.tHan X with
   | false=>
    have HH:Hid (U.tHan (⟨X.toArray⟩:ByteArray).data.toList=false):=Lib.hid (by rw[mk_data,hh])
    have HQ:Hid (U.tForm ws=false):=Lib.hid (by rw[hF,hh,Bool.false_and])
    clear hF hh
    go_enter Tryz.func78,Tryz.ntmps78
    go_wp2_with fail
    refine (direHan_is _ ⟨X.toArray⟩ _ (by rw[mk_size];omega) HH.out).mono ?_
    rintro e w1 ⟨rfl,hb⟩
    go_wp2
    go_ret
    exact ⟨by rw[HQ.out];rfl,hb⟩
   | true=>
    have HH:Hid (U.tHan (⟨X.toArray⟩:ByteArray).data.toList=true):=Lib.hid (by rw[mk_data,hh])
    have HQ:Hid (U.tPfx (⟨Y.toArray⟩:ByteArray).data.toList=U.tForm ws):=Lib.hid (by rw[mk_data,hF,hh,Bool.true_and])
    clear hF hh
    go_enter Tryz.func78,Tryz.ntmps78
    go_wp2_with fail
    refine (direHan_is _ ⟨X.toArray⟩ _ (by rw[mk_size];omega) HH.out).mono ?_
    rintro e w1 ⟨rfl,hb⟩
    have g2':w1.cell? ⟨bb,oo+2,none⟩=some (.string ⟨Y.toArray⟩):=by rw[hb.cell (p:=⟨bb,oo+2,none⟩) (show bb<w.heap.size by omega)];exact g2
    go_wp2_with fail
    refine (direPfx_is _ ⟨Y.toArray⟩ _ (by rw[mk_size];omega) (by rw[mk_data];exact HY.out) HQ.out).mono ?_
    rintro e w2 ⟨rfl,hb2⟩
    go_wp2
    go_ret
    exact ⟨rfl,hb.trans (hb2.mono hb.size)⟩
  ·have HQ:Hid (U.tForm ws=false):=Lib.hid (by rw[hF,decide_eq_false hl,Bool.false_and])
   have hl2:((L:Int)==3)=false:=by simp;omega
   clear hF e1 e2 a1 a2 hl
   go_enter Tryz.func78,Tryz.ntmps78
   go_wp2
   go_ret
   exact ⟨by rw[HQ.out];rfl,Below.refl _ _⟩
 rw[if_neg a3] at hF
 have HQ:=Lib.hid hF
 have b1:(A==[37])=false:=by simpa using a1
 have b2:(A==[37,89,65,77,76])=false:=by simpa [U.yamlL] using a2
 have b3:(A==[37,84,65,71])=false:=by simpa [U.tagD] using a3
 clear hF e1 e2 a1 a2 a3
 go_enter Tryz.func78,Tryz.ntmps78
 go_wp2
 go_ret
 exact ⟨by rw[HQ.out];rfl,Below.refl _ _⟩
end Go.Proofs.YthcmkpiajkbpnaaGreatDoor

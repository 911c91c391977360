/- Parts of the proof, put together from smaller texts (blanks that Lean does not want are struck). Conditions: those that each theorem writes out. -/
import Derived.BigQuiet
import Derived.Deep.DeepCutAuto
import Derived.Deep.DrawnRows
import Derived.Deep.LoopGhost
import Derived.Lib.SlTrimSet
import Derived.Shelf.Strings.SlTrimAscii
import Derived.Test.YthcmkpiajkbpnaaGreatDoorZ00
import Derived.Test.YthcmkpiajkbpnaaGreatDoorZ02
import Derived.Test.YthcmkpiajkbpnaaGreatDoorZ03
import Derived.Test.YthcmkpiajkbpnaaGreatDoorZ06
namespace Go.Proofs.YthcmkpiajkbpnaaGreatDoor
open Go.RowKit
theorem endc_ne {b:Nat} (h:b≠10):U.endc (b:Int)=U.white (b:Int):=by
 rw[white_endc]
 have:((b:Int)==10)=false:=by simp;omega
 rw[this,Bool.or_false]
theorem prefix3 (s:ByteArray) (ch:UInt8):Lib.hasPrefix s.data.toList [ch,ch,ch]=decide (3≤s.size∧byt s 0=ch.toNat∧byt s 1=ch.toNat∧byt s 2=ch.toNat):=by
 rw[byt_list,byt_list,byt_list,Lib.size_eq]
 unfold Lib.hasPrefix
 rw[Bool.eq_iff_iff,decide_eq_true_eq]
 rcases hl:s.data.toList with _|⟨x,_|⟨y,_|⟨z,t⟩⟩⟩
 ·simp
 ·simp[List.isPrefixOf]
 ·simp[List.isPrefixOf]
 ·simp only[List.isPrefixOf,Bool.and_eq_true,beq_iff_eq,List.length_cons,List.getD_cons_zero,List.getD_cons_succ,Bool.and_true]
  constructor
  ·rintro ⟨rfl,rfl,rfl⟩
   exact ⟨by omega,rfl,rfl,rfl⟩
  ·rintro ⟨_,h1,h2,h3⟩
   exact ⟨(UInt8.toNat_inj.1 h1).symm,(UInt8.toNat_inj.1 h2).symm,(UInt8.toNat_inj.1 h3).symm⟩
theorem marked_row (s:ByteArray) (a b:Nat) (ch:UInt8) (hab:a≤b) (hb:b≤s.size) (hn:∀ j,j<b→a≤j→byt s j≠10) :
  (Lib.hasPrefix (s.extract a b).data.toList [ch,ch,ch]&&endsB (s.extract a b) 3)=mk3 s a b ch.toNat:=by
 have hsz:=size_piece s a b hb
 rw[prefix3,hsz]
 unfold mk3
 by_cases h3:3≤b-a
 ·rw[byt_extract s a b 0 (by omega),byt_extract s a b 1 (by omega),byt_extract s a b 2 (by omega),Nat.add_zero]
  have he:endsB (s.extract a b) 3=decide (a+3=b∨U.white (byt s (a+3):Int)=true):=by
   by_cases h4:a+3=b
   ·rw[endsB_out _ _ (.inr (by rw[hsz];omega))]
    simp[h4]
   ·rw[show (3:Int)=((3:Nat):Int) from rfl,endsB_in _ 3 (by rw[hsz];omega),byt_extract s a b 3 (by omega),endc_ne (hn _ (by omega) (by omega))]
    simp[h4]
  rw[he,Bool.eq_iff_iff]
  simp only[Bool.and_eq_true,decide_eq_true_eq]
  constructor
  ·rintro ⟨⟨_,h5,h6,h7⟩,h8⟩;exact ⟨by omega,h5,h6,h7,h8⟩
  ·rintro ⟨_,h5,h6,h7,h8⟩;exact ⟨⟨h3,h5,h6,h7⟩,h8⟩
 ·rw[decide_eq_false (fun h=>h3 h.1),Bool.false_and,decide_eq_false (fun h=>h3 (by omega))]
theorem marked_is (q:Bool) (r m:ByteArray) (ch:UInt8) (w:World) (hr:r.size≤1099511627776) (hm:m.size=3) (hd:m.data.toList=[ch,ch,ch]) (h:(Lib.hasPrefix r.data.toList [ch,ch,ch]&&endsB r 3)=q) :
  Calls Tryz.prog 56 #[.string r,.string m] w fun e w'=>e=.returned (.bool q)∧w=w':=by
 obtain ⟨x,hx⟩:∃ x,Lib.hasPrefix r.data.toList [ch,ch,ch]=x:=⟨_,rfl⟩
 obtain ⟨y,hy⟩:∃ y,endsB r 3=y:=⟨_,rfl⟩
 rw[hx,hy] at h
 rw[←hd] at hx
 have HX:=Lib.hid hx
 have HY:=Lib.hid hy
 clear hx hy hd
 cases x with
 | true=>
  go_enter Tryz.func56,Tryz.ntmps56
  go_wp2_with fail
  refine (Tryz.strings_HasPrefix r m _).mono ?_
  rintro e w1 ⟨rfl,rfl⟩
  rw[HX.out]
  go_wp2_with fail
  refine (Ends_is y r 3 _ hr HY.out).mono ?_
  rintro e w1 ⟨rfl,rfl⟩
  go_wp2
  go_ret
  exact ⟨by rw[←h,Bool.true_and];rfl,rfl⟩
 | false=>
  go_enter Tryz.func56,Tryz.ntmps56
  go_wp2_with fail
  refine (Tryz.strings_HasPrefix r m _).mono ?_
  rintro e w1 ⟨rfl,rfl⟩
  rw[HX.out]
  go_wp2
  go_ret
  exact ⟨by rw[←h,Bool.false_and];rfl,rfl⟩
set_option maxHeartbeats 800000 in
theorem rowsKind_is (q:Int) (a b p:Nat) (s:ByteArray) (at':Int) (w:World) (hs:s.size≤1099511627776) (hB:RowB s (clampN at' s.size) a) (hE:RowE s (clampN at' s.size) b) (hF:FirN s a b p) (hq:kindN s a b p=q) :
  Calls Tryz.prog 32 #[.string s,.int .i64 at'] w fun e w'=>e=.returned (.int .i64 q)∧w=w':=by
 have h1:=hB.1
 have h2:=hE.1
 have h3:=hE.2.1
 have h4:=hF.1
 have h5:=hF.2.1
 have hn:∀ j,j<b→a≤j→byt s j≠10:=(hB.within hE (by omega) (Nat.le_refl _)).2.1
 have hsz:=size_piece s a b h3
 obtain ⟨x,hx⟩:∃ x,mk3 s a b 45=x:=⟨_,rfl⟩
 obtain ⟨y,hy⟩:∃ y,mk3 s a b 46=y:=⟨_,rfl⟩
 unfold kindN at hq
 rw[hx,hy] at hq
 have HX:=Lib.hid ((marked_row s a b 45 (by omega) h3 hn).trans hx)
 have HY:=Lib.hid ((marked_row s a b 46 (by omega) h3 hn).trans hy)
 have HB:=Lib.hid hB
 have HE:=Lib.hid hE
 have HF:=Lib.hid hF
 have HX3:∀ j,a+j<b→byt (s.extract a b) j=byt s (a+j):=fun j hj=>byt_extract s a b j hj
 have HX4:=Lib.hid HX3
 clear hx hy hB hE hF hn HX3
 obtain ⟨r,hr⟩:∃ r,r=s.extract a b:=⟨_,rfl⟩
 rw[←hr] at HX HY HX4 hsz
 have hrs:r.size≤1099511627776:=by omega
 have HR:=Lib.hid hr
 clear hr
 cases x with
 | true=>
  go_enter Tryz.func32,Tryz.ntmps32
  go_wp2_with fail
  refine (Row_is a b s at' _ hs HB.out HE.out).mono ?_
  rintro e w' ⟨rfl,rfl⟩
  go_wp2_with fail
  rw[←HR.out]
  refine (marked_is true r _ 45 _ hrs rfl rfl HX.out).mono ?_
  rintro e w' ⟨rfl,rfl⟩
  go_wp2
  go_ret
  exact ⟨by rw[←hq];rfl,rfl⟩
 | false=>
  cases y with
  | true=>
   go_enter Tryz.func32,Tryz.ntmps32
   go_wp2_with fail
   refine (Row_is a b s at' _ hs HB.out HE.out).mono ?_
   rintro e w' ⟨rfl,rfl⟩
   go_wp2_with fail
   rw[←HR.out]
   refine (marked_is false r _ 45 _ hrs rfl rfl HX.out).mono ?_
   rintro e w' ⟨rfl,rfl⟩
   go_wp2_with fail
   refine (marked_is true r _ 46 _ hrs rfl rfl HY.out).mono ?_
   rintro e w' ⟨rfl,rfl⟩
   go_wp2
   go_ret
   exact ⟨by rw[←hq];rfl,rfl⟩
  | false=>
   simp only[Bool.false_eq_true,if_false] at hq
   go_enter Tryz.func32,Tryz.ntmps32
   go_wp2_with fail
   refine (Row_is a b s at' _ hs HB.out HE.out).mono ?_
   rintro e w' ⟨rfl,rfl⟩
   go_wp2_with fail
   rw[←HR.out]
   refine (marked_is false r _ 45 _ hrs rfl rfl HX.out).mono ?_
   rintro e w' ⟨rfl,rfl⟩
   go_wp2_with fail
   refine (marked_is false r _ 46 _ hrs rfl rfl HY.out).mono ?_
   rintro e w' ⟨rfl,rfl⟩
   go_wp2
   go_loop [27] (fun i=>∃ k:Nat,i=.int .i64 (k:Int)∧a+k≤p) (fun i=>p-a-(intOf i).toNat)
   case atStart=>exact ⟨0,rfl,by omega⟩
   case round=>
    obtain ⟨k,rfl,hk⟩:=hrel
    by_cases hkb:a+k<b
    ·have hix:=run_byt r k (by omega) _ rfl
     rw[HX4.out k hkb] at hix
     by_cases hkn:a+k<p
     ·have hw:=HF.out.2.2.1 _ hkn (by omega)
      obtain ⟨x,hx⟩:∃ x,x=byt s (a+k):=⟨_,rfl⟩
      rw[←hx] at hix hw
      have HW:=Lib.hid hw
      clear hx hw hq
      go_wp2_with fail
      refine (White_is true _ _ HW.out).mono ?_
      rintro e w' ⟨rfl,rfl⟩
      go_wp2
      go_round
      case rel=>exact ⟨k+1,by go_num,by omega⟩
      case measure=>simp[intOf];omega
     ·have hkp:a+k=p:=by omega
      have hw:=HF.out.2.2.2.resolve_left (by omega)
      rw[if_neg (by omega),←hkp] at hq
      rw[←hkp] at hw
      obtain ⟨x,hx⟩:∃ x,x=byt s (a+k):=⟨_,rfl⟩
      rw[←hx] at hix hw hq
      have HW:=Lib.hid hw
      clear hx hw
      by_cases h35:x=35
      ·subst h35
       rw[if_pos rfl] at hq
       go_wp2_with fail
       refine (White_is false _ _ HW.out).mono ?_
       rintro e w' ⟨rfl,rfl⟩
       go_wp2
       go_ret
       exact ⟨by rw[←hq];rfl,rfl⟩
      ·rw[if_neg h35] at hq
       have hxb:((x:Int)==35)=false:=by simp;omega
       clear h35
       go_wp2_with fail
       refine (White_is false _ _ HW.out).mono ?_
       rintro e w' ⟨rfl,rfl⟩
       go_wp2
       go_ret
       exact ⟨by rw[←hq];rfl,rfl⟩
    ·rw[if_pos (by omega)] at hq
     go_wp2
     go_ret
     exact ⟨by rw[←hq];rfl,rfl⟩
theorem wl_lf {b:Nat} (h:b=10):wl b=true:=by subst h;rfl
theorem wl_other {b:Nat} (h:b≠10):wl b=U.white (b:Int):=by
 unfold wl;rw[decide_eq_false h,Bool.false_or]
set_option maxHeartbeats 800000 in
theorem rowsAbove_is (n c k:Nat) (s:ByteArray) (at':Int) (w:World) (hs:s.size≤1099511627776) (hc:clampN at' s.size=c) (h:Abv s c k n) :
  Calls Tryz.prog 73 #[.string s,.int .i64 at'] w fun e w'=>e=.returned (.int .i64 (n:Int))∧w=w':=by
 have hcs:=clampN_le at' s.size
 rw[hc] at hcs
 have h1:=h.1
 have HC:=Lib.hid hc
 have H:=Lib.hid h
 clear hc h
 go_enter Tryz.func73,Tryz.ntmps73
 go_wp2_with fail
 refine (clamp_is c s at' _ hs HC.out).mono ?_
 rintro e w' ⟨rfl,rfl⟩
 go_wp2
 go_loop [5,12] (fun vf vi=>∃ i f:Nat,vi=.int .i64 (i:Int)∧vf=.int .i64 (f:Int)∧i+k≤c∧f≤i∧Hid (f+lfs s (c-i)=lfs s c)) (fun _ vi=>c-k-(intOf vi).toNat)
 case atStart=>exact ⟨0,0,rfl,rfl,by omega,Nat.le_refl _,by show _=_;rw[Nat.zero_add,Nat.sub_zero]⟩
 case round=>
  obtain ⟨i,f,rfl,rfl,hi,hf,HF⟩:=hrel
  by_cases hic:i<c
  ·have hix:=run_byt s (c-1-i) (by omega) ((c:Int)-1-(i:Int)) (by omega)
   have hci:c-i=c-1-i+1:=by omega
   by_cases hik:i+k<c
   ·have hw:=H.out.2.1 (c-1-i) (by omega) (by omega)
    by_cases hlf:byt s (c-1-i)=10
    ·have HN:Hid (f+1+lfs s (c-(i+1))=lfs s c):=by
      show _=_
      have h2:=HF.out
      rw[hci,lfs_lf hlf] at h2
      rw[show c-(i+1)=c-1-i from by omega]
      omega
     rw[hlf] at hix
     clear HF hw hci
     go_wp2
     go_round
     case rel=>exact ⟨i+1,f+1,by go_num,by go_num,by omega,by omega,HN⟩
     case measure=>simp[intOf];omega
    ·have HN:Hid (f+lfs s (c-(i+1))=lfs s c):=by
      show _=_
      have h2:=HF.out
      rw[hci,lfs_other hlf] at h2
      rw[show c-(i+1)=c-1-i from by omega]
      exact h2
     rw[wl_other hlf] at hw
     obtain ⟨x,hx⟩:∃ x,x=byt s (c-1-i):=⟨_,rfl⟩
     rw[←hx] at hix hw hlf
     have hxb:((x:Int)==10)=false:=by simp;omega
     have HW:=Lib.hid hw
     clear HF hw hci hx hlf
     go_wp2_with fail
     refine (White_is true _ _ HW.out).mono ?_
     rintro e w' ⟨rfl,rfl⟩
     go_wp2
     go_round
     case rel=>exact ⟨i+1,f,by go_num,rfl,by omega,by omega,HN⟩
     case measure=>simp[intOf];omega
   ·have hk:k=c-1-i+1:=by omega
    obtain ⟨_,hw,hn⟩:=H.out.2.2.resolve_left (by omega)
    rw[show k-1=c-1-i from by omega] at hw
    have hlf:byt s (c-1-i)≠10:=fun e=>by rw[wl_lf e] at hw;cases hw
    rw[wl_other hlf] at hw
    have h2:=HF.out
    rw[hci,←hk] at h2
    have hnf:n=f-1:=by omega
    obtain ⟨x,hx⟩:∃ x,x=byt s (c-1-i):=⟨_,rfl⟩
    rw[←hx] at hix hw hlf
    have hxb:((x:Int)==10)=false:=by simp;omega
    have HW:=Lib.hid hw
    have hmx:max ((f:Int)-1) 0=(n:Int):=by omega
    clear HF hw hci hx hlf hn h2 hk hnf
    go_wp2_with fail
    refine (White_is false _ _ HW.out).mono ?_
    rintro e w' ⟨rfl,rfl⟩
    go_wp2
    go_ret
    exact ⟨rfl,rfl⟩
  ·have hi2:i=c:=by omega
   have hk0:k=0:=by omega
   have hn:n=lfs s c:=by
    rcases H.out.2.2 with h2|h2
    ·exact h2.2
    ·omega
   have h2:=HF.out
   rw[hi2,Nat.sub_self] at h2
   have h0:lfs s 0=0:=rfl
   have hnf:n=f:=by omega
   subst hnf
   clear hn h2 h0 HF
   go_wp2
   go_ret
   exact ⟨rfl,rfl⟩
end Go.Proofs.YthcmkpiajkbpnaaGreatDoor
namespace Go.Proofs.YthcmkpiajkbpnaaGreatDoor
open Go.RowKit
theorem OutC.form {B:Nat} {w:World} {v:Value} {cs:List (List UInt8 × Nat)} (h:OutC B w v cs):∃ ao cap,v=.slice ao cs.length cap:=by
 rcases h.2 with ⟨rfl,hn⟩|⟨g,cap,cur,rfl,_⟩
 ·exact ⟨none,0,by rw[hn]⟩
 ·exact ⟨_,_,rfl⟩
end Go.Proofs.YthcmkpiajkbpnaaGreatDoor
namespace Go.Proofs.YthcmkpiajkbpnaaGreatDoor
open Go.RowKit
instance (s:ByteArray) (a b x:Nat):Decidable (TabN s a b x):=by unfold TabN;infer_instance
instance (s:ByteArray) (a b:Nat):Decidable (NoTab s a b):=by unfold NoTab;infer_instance
end Go.Proofs.YthcmkpiajkbpnaaGreatDoor
namespace Go.Proofs.YthcmkpiajkbpnaaGreatDoor
open Go.RowKit
theorem white_in (b:UInt8):([32,9]:List UInt8).contains b=U.white (b.toNat:Int):=by
 have H:∀ k:Fin 256,([32,9]:List UInt8).contains k.val.toUInt8=U.white (k.val.toUInt8.toNat:Int):=by decide +kernel
 have h:=H ⟨b.toNat,b.toNat_lt⟩
 have e:b.toNat.toUInt8=b:=UInt8.toNat_inj.1 (by simp)
 rw[←e]
 exact h
theorem piece_get (s:ByteArray) (a b j:Nat) (x:UInt8) (h:(pieceL s a b)[j]?=some x):j<b-a∧byt s (a+j)=x.toNat:=by
 unfold pieceL at h
 rw[List.getElem?_take] at h
 split at h
 ·rename_i hj
  rw[List.getElem?_drop] at h
  refine ⟨hj,?_⟩
  rw[byt_list]
  simp[List.getD,h]
 ·cases h
theorem trim_piece {s:ByteArray} {a b f:Nat} (hb:b≤s.size) (hF:FirN s a b f):Lib.trimLeftS (pieceL s a b) [32,9]=pieceL s f b:=by
 obtain ⟨h1,h2,h3,h4⟩:=hF
 rw[Lib.trimLeftS_drop (pieceL s a b) [32,9] (f-a) (by rw[piece_len hb];omega) (fun j x hj hx=>?_) (fun x hx=>?_)]
 ·unfold pieceL
  rw[List.drop_take,List.drop_drop,show a+(f-a)=f by omega,show b-a-(f-a)=b-f by omega]
 ·obtain ⟨_,h5⟩:=piece_get s a b j x hx
  rw[white_in,←h5]
  exact h3 (a+j) (by omega) (by omega)
 ·obtain ⟨h6,h5⟩:=piece_get s a b (f-a) x hx
  rw[white_in,←h5,show a+(f-a)=f by omega]
  rcases h4 with h4|h4
  ·omega
  ·exact h4
theorem trim_tail {s:ByteArray} {a b e:Nat} (hb:b≤s.size) (hE:BakN s a b e):Lib.trimRightS (pieceL s a b) [32,9]=pieceL s a e:=by
 obtain ⟨h1,h2,h3,h4⟩:=hE
 rw[Lib.trimRightS_take (pieceL s a b) [32,9] (e-a) (by rw[piece_len hb];omega) (fun j x hj hx=>?_) (fun x h0 hx=>?_)]
 ·unfold pieceL
  rw[List.take_take,Nat.min_eq_left (by omega)]
 ·obtain ⟨h6,h5⟩:=piece_get s a b j x hx
  rw[white_in,←h5]
  exact h3 (a+j) (by omega) (by omega)
 ·obtain ⟨h6,h5⟩:=piece_get s a b (e-a-1) x hx
  rw[white_in,←h5,show a+(e-a-1)=e-1 by omega]
  exact h4.resolve_left (by omega)
end Go.Proofs.YthcmkpiajkbpnaaGreatDoor
namespace Go.Proofs.YthcmkpiajkbpnaaGreatDoor
open Go.RowKit Go.Shelf
theorem white_cut:∀ (j:Nat) b,(⟨#[32,9]⟩:ByteArray).data.toList[j]?=some b→b.toNat<128:=by
 intro j b h
 have hm:b∈([32,9]:List UInt8):=List.mem_of_getElem? h
 simp at hm
 rcases hm with rfl|rfl <;> decide
theorem quotTrimR (l:List UInt8) (s:ByteArray) (w:World) (hs:s.size≤9223372036854775807) (h:Lib.trimRightS s.data.toList [32,9]=l) :
  Calls Tryz.prog 72 #[.string s,.string ⟨#[32,9]⟩] w fun e w'=>e=.returned (.string ⟨l.toArray⟩)∧Below w.heap.size w w':=by
 subst h
 exact Any.strings_TrimRight_laid Tryz.lays162 (by kernel_rfl) s ⟨#[32,9]⟩ w hs (by decide) white_cut
end Go.Proofs.YthcmkpiajkbpnaaGreatDoor
namespace Go.Proofs.YthcmkpiajkbpnaaGreatDoor
open Go.RowKit
theorem noteClone_is (s:ByteArray) (w:World) (hs:s.size≤1099511627776) :
  Calls Tryz.prog 62 #[.string s] w fun e w'=>e=.returned (.string s)∧Below w.heap.size w w':=by
 go_enter Tryz.func62,Tryz.ntmps62
 go_wp2_with fail
 refine (Tryz.stringslite_Clone s _ (Nat.le_trans hs (by decide))).mono ?_
 rintro e w1 ⟨rfl,b1⟩
 go_wp2
 go_ret
 exact ⟨rfl,b1⟩
theorem noteClamp_is (c:Nat) (s:ByteArray) (at':Int) (w:World) (hs:s.size≤1099511627776) (h:clampN at' s.size=c) :
  Calls Tryz.prog 39 #[.string s,.int .i64 at'] w fun e w'=>e=.returned (.int .i64 (c:Int))∧w=w':=by
 have hx:min (max at' 0) (s.size:Int)=(c:Int):=by
  rw[←h];unfold clampN;omega
 clear h
 go_enter Tryz.func39,Tryz.ntmps39
 go_wp2
 go_ret
 exact ⟨rfl,rfl⟩
theorem note_index (b:UInt8):0≤Lib.indexByte [32,9,10] b↔(U.white (b.toNat:Int)=true∨b.toNat=10):=by
 have H:∀ k:Fin 256,(0≤Lib.indexByte [32,9,10] k.val.toUInt8↔(U.white (k.val.toUInt8.toNat:Int)=true∨k.val.toUInt8.toNat=10)):=by decide +kernel
 have h:=H ⟨b.toNat,b.toNat_lt⟩
 have e:b.toNat.toUInt8=b:=UInt8.toNat_inj.1 (by simp)
 rw[←e]
 exact h
theorem noteBegins_is (r:Bool) (s:ByteArray) (p:Nat) (w:World) (hs:s.size≤1099511627776) (hp:p<s.size) (h35:byt s p=35) (h:ntB s p=r) :
  Calls Tryz.prog 71 #[.string s,.int .i64 (p:Int)] w fun e w'=>e=.returned (.bool r)∧w=w':=by
 unfold ntB at h
 rcases Nat.eq_zero_or_pos p with rfl|h0
 ·have hr:r=true:=by rw[←h];exact decide_eq_true ⟨h35,.inl rfl⟩
  subst hr
  clear h
  go_enter Tryz.func71,Tryz.ntmps71
  go_wp2
  go_ret
  exact ⟨rfl,rfl⟩
 ·obtain ⟨b,hb⟩:∃ b:UInt8,b=s.data[p-1]!:=⟨_,rfl⟩
  have hbb:byt s (p-1)=b.toNat:=by rw[hb,byt_bang s (p-1) (by omega)]
  have hi:=run_byt s (p-1) (by omega) _ rfl
  rw[hbb] at hi h
  have e1:((p-1:Nat):Int)=(p:Int)-1:=by omega
  rw[e1] at hi
  have hr:decide (0≤Lib.indexByte [32,9,10] b)=r:=by
   rw[←h,Bool.eq_iff_iff,decide_eq_true_eq,decide_eq_true_eq,note_index]
   constructor
   ·intro hc;exact ⟨h35,.inr hc⟩
   ·rintro ⟨_,hc|hc⟩
    ·omega
    ·exact hc
  have hbu:((b.toNat:Nat):Int).toNat.toUInt8=b:=UInt8.toNat_inj.1 (by simp)
  have hp0:((p:Int)==0)=false:=by rw[beq_eq_false_iff_ne];omega
  obtain ⟨y,hy⟩:∃ y:Int,((b.toNat:Nat):Int)=y:=⟨_,rfl⟩
  rw[hy] at hi hbu
  obtain ⟨k,hk⟩:∃ k:Int,Lib.indexByte [32,9,10] b=k:=⟨_,rfl⟩
  rw[hk] at hr
  have CI:∀ W,Calls Tryz.prog 42 #[.string ⟨#[32,9,10]⟩,.int .u8 y] W fun e w'=>e=.returned (.int .i64 k)∧w'=W:=fun W=>by
   have h1:=Tryz.strings_IndexByte ⟨#[32,9,10]⟩ y W
   rw[hbu] at h1
   rw[←hk]
   exact h1
  clear h hb hbb hy hbu hk e1 h35
  go_enter Tryz.func71,Tryz.ntmps71
  go_wp2_with (go_at_call 42;refine (CI _).mono ?_;rintro e w9 ⟨rfl,rfl⟩)
  go_ret
  exact ⟨by rw[←hr];rfl,rfl⟩
theorem last_piece {s:ByteArray} {a q r:Nat} (haq:a≤q) (hq:q≤s.size) (hB:RowB s q r):Lib.lastIndexByte (s.extract a q) 10+1=((max a r-a:Nat):Int):=by
 have hsz:(s.extract a q).size=q-a:=size_piece s a q hq
 have h:=last_begin (s.extract a q) (q-a) (max a r-a) (by omega) ⟨by have:=hB.1;omega,fun j h1 h2=>?_,?_⟩
 ·have e:(s.extract a q).extract 0 (q-a)=s.extract a q:=by
   rw[ByteArray.extract_extract]
   congr 1 <;> omega
  rw[e] at h
  exact h
 ·rw[byt_extract s a q j (by omega)]
  exact hB.2.1 (a+j) (by omega) (by omega)
 ·by_cases har:r≤a
  ·left;omega
  ·right
   rw[byt_extract s a q _ (by have:=hB.1;omega),show a+(max a r-a-1)=r-1 by omega]
   exact hB.2.2.resolve_left (by omega)
theorem noteLast_is (x:Nat) (s:ByteArray) (a q r:Nat) (w:World) (hs:s.size≤1099511627776) (haq:a≤q) (hq:q≤s.size) (hB:RowB s q r) (hx:max a r=x) :
  Calls Tryz.prog 41 #[.string s,.int .i64 (a:Int),.int .i64 (q:Int)] w fun e w'=>e=.returned (.int .i64 (x:Int))∧w=w':=by
 have h1:=last_piece haq hq hB
 have hsz:(s.extract a q).size=q-a:=size_piece s a q hq
 have hrq:=hB.1
 obtain ⟨i,hi⟩:∃ i,i=Lib.lastIndexByte (s.extract a q) 10:=⟨_,rfl⟩
 rw[←hi] at h1
 have e1:(a:Int)+i+1=(x:Int):=by omega
 have e0:-1≤i:=by omega
 have e2:i≤(s.size:Int):=by omega
 have HI:=Lib.hid hi
 have g1:(a:Int)≤(q:Int):=by omega
 have g2:(q:Int)≤(s.size:Int):=by omega
 clear hi h1 hx hB hrq
 go_enter Tryz.func41,Tryz.ntmps41
 go_wp2_with fail
 refine (Tryz.strings_LastIndexByte (s.extract a q) 10 (by rw[hsz];omega) _).mono ?_
 rintro e w1 ⟨rfl,rfl⟩
 rw[←HI.out]
 go_wp2
 go_ret
 exact ⟨rfl,rfl⟩
theorem PW.inv {s:ByteArray} {a E p:Nat} {L o:List (List UInt8 × Nat)} {S b:Bool} (h:PW s a L S E p o b) :
  (¬ p<s.size∧L=o∧S=b∧E=p)∨(p<s.size∧U.white (byt s p:Int)=true∧PW s a L S E (p+1) o b)∨(p<s.size∧byt s p=10∧PW s a L S E (p+1) o b) ∨
  (∃ rb t e k d,p<s.size∧ntB s p=true∧RowB s p rb∧RowE s p t∧BakN s (p+1) t e∧Abv s p k d∧PW s a L S E t (o++[(pieceL s (p+1) e,d)]) (b||decide (rb<a))) ∨
  (p<s.size∧U.white (byt s p:Int)=false∧byt s p≠10∧ntB s p=false∧L=o∧S=b∧E=p):=by
 cases h with
 | over h1 h2 h3 h4=>exact .inl ⟨h1,h2,h3,h4⟩
 | white h1 h2 h3=>exact .inr (.inl ⟨h1,h2,h3⟩)
 | lf h1 h2 h3=>exact .inr (.inr (.inl ⟨h1,h2,h3⟩))
 | com h1 h2 h3 h4 h5 h6 h7=>exact .inr (.inr (.inr (.inl ⟨_,_,_,_,_,h1,h2,h3,h4,h5,h6,h7⟩)))
 | stop h1 h2 h3 h4 h5 h6 h7=>exact .inr (.inr (.inr (.inr ⟨h1,h2,h3,h4,h5,h6,h7⟩)))
theorem white_nums {b:Nat} (h:U.white (b:Int)=true):b=32∨b=9:=by
 unfold U.white at h
 simp at h
 omega
set_option maxRecDepth 100000 in
set_option maxHeartbeats 3200000 in
theorem notePass_is (L:List (List UInt8 × Nat)) (S:Bool) (q:Nat) (s:ByteArray) (a:Nat) (w:World) (hs:s.size≤1000000) (ha:a≤s.size) (hZ:PW s a L S q a [] false) :
  Calls Tryz.prog 40 #[.string s,.int .i64 (a:Int)] w fun e w'=>∃ v,e=.returned (.tuple #[v,.bool S,.int .i64 (q:Int)])∧OutC w.heap.size w' v L∧Below w.heap.size w w':=by
 have hs2:s.size≤1099511627776:=by omega
 have HZ:=Lib.hid hZ
 clear hZ
 go_enter Tryz.func40,Tryz.ntmps40
 go_wp2
 go_step3
 go_wp2
 go_step3
 go_wp2
 go_loopw [4,5,6] (fun v4 v5 v6 wr=>∃ (o:List (List UInt8 × Nat)) (b:Bool) (p:Nat),v5=.bool b∧v6=.int .i64 (p:Int)∧OutC w.heap.size wr v4 o∧p≤s.size∧o.length≤p∧Below w.heap.size w wr∧Hid (PW s a L S q p o b)) (fun _ _ v6 _=>s.size-(intOf v6).toNat)
 case atStart=>exact ⟨[],false,a,rfl,rfl,OutC.nil _ _,ha,Nat.zero_le _,Below.refl _ _,HZ⟩
 case round=>
  obtain ⟨o,b,p,rfl,rfl,ho,hp0,hol,hb,H⟩:=hrel
  obtain ⟨ao,cap,rfl⟩:=ho.form
  clear HZ
  rcases H.out.inv with ⟨hp,rfl,rfl,rfl⟩|⟨hp,hw,hN⟩|⟨hp,h10,hN⟩|⟨rb,t,e,kA,d,hp,hn,hB,hE,hK,hA,hN⟩|⟨hp,hw,h10,hn,rfl,rfl,rfl⟩
  ·clear H
   go_wp2
   rw[Exit.noGoto_ret]
   go_ret3
   exact ⟨_,rfl,ho,hb⟩
  ·have hi:=run_byt s p hp _ rfl
   have HN:=Lib.hid hN
   rcases white_nums hw with h|h <;> rw[h] at hi <;> clear hN H h hw
   ·go_wp2
    go_roundw
    case rel=>exact ⟨o,b,p+1,rfl,by go_num,ho,by omega,by omega,hb,HN⟩
    case measure=>simp[intOf];omega
   ·go_wp2
    go_roundw
    case rel=>exact ⟨o,b,p+1,rfl,by go_num,ho,by omega,by omega,hb,HN⟩
    case measure=>simp[intOf];omega
  ·have hi:=run_byt s p hp _ rfl
   rw[h10] at hi
   have HN:=Lib.hid hN
   clear hN H h10
   go_wp2
   go_roundw
   case rel=>exact ⟨o,b,p+1,rfl,by go_num,ho,by omega,by omega,hb,HN⟩
   case measure=>simp[intOf];omega
  ·have hi:=run_byt s p hp _ rfl
   have h35:=ntB_byte hn
   have hpt:=nt_row hn hp hE
   have ht:=hE.2.1
   have hcp:clampN (p:Int) s.size=p:=clampN_self p s.size (by omega)
   have CB:=fun W=>noteBegins_is true s p W hs2 hp h35 hn
   have CR:=fun W=>Row_is rb t s (p:Int) W hs2 (by rw[hcp];exact hB) (by rw[hcp];exact hE)
   have CA:=fun W=>rowsAbove_is d p kA s (p:Int) W hs2 hcp hA
   obtain ⟨X,hX⟩:∃ X:ByteArray,s.extract (p+1) t=X:=⟨_,rfl⟩
   have hXs:X.size≤1000000:=by rw[←hX,ByteArray.size_extract];omega
   have hXl:X.data.toList=pieceL s (p+1) t:=by rw[←hX,piece_ext]
   obtain ⟨T,hT⟩:∃ T:ByteArray,(⟨(pieceL s (p+1) e).toArray⟩:ByteArray)=T:=⟨_,rfl⟩
   have CT:=fun W=>quotTrimR (pieceL s (p+1) e) X W (by omega) (by rw[hXl];exact trim_tail ht hK)
   rw[hT] at CT
   have hTs:T.size≤1000000:=by
    rw[←hT,←piece_ext,ByteArray.size_extract]
    have:=hK.2.1
    omega
   have CC:=fun W=>noteClone_is T W (by omega)
   have HN:=Lib.hid hN
   have g1:(p:Int)+1≤(t:Int):=by omega
   have g2:(t:Int)≤(s.size:Int):=by omega
   rw[h35] at hi
   clear hN H h35 hn hB hE hK hA hXl
   cases b with
   | true=>
    rw[Bool.true_or] at HN
    go_wp2_with (first|(go_at_call 71;refine (CB _).mono ?_;rintro e w9 ⟨rfl,rfl⟩)|(go_at_call 34;refine (CR _).mono ?_;rintro e w9 ⟨rfl,rfl⟩)|(go_at_call 72;refine (CT _).mono ?_;rintro e w9 ⟨rfl,b9⟩))
    refine (CC _).mono ?_
    rintro e w10 ⟨rfl,b10⟩
    have ho9:=ho.below b9
    have ho10:=ho9.below b10
    have hb9:=hb.trans (b9.mono hb.size)
    have hb10:=hb9.trans (b10.mono hb9.size)
    clear ho ho9 b9 b10
    go_wp2_with (first|(go_at_call 73;refine (CA _).mono ?_;rintro e w11 ⟨rfl,rfl⟩)|(at_builtin;refine appendC _ T _ d _ hT rfl rfl _ _ rfl w.heap.size w _ _ rfl rfl ho10 hb10 (by omega) (Nat.le_refl _) ?_;intro v5 w5 o5 b5))
    go_roundw
    case rel=>exact ⟨_,_,t,rfl,rfl,o5,ht,by rw[List.length_append];show _+1≤_;omega,b5,HN⟩
    case measure=>simp[intOf];omega
   | false=>
    rw[Bool.false_or] at HN
    go_wp2_with (first|(go_at_call 71;refine (CB _).mono ?_;rintro e w9 ⟨rfl,rfl⟩)|(go_at_call 34;refine (CR _).mono ?_;rintro e w9 ⟨rfl,rfl⟩)|(go_at_call 72;refine (CT _).mono ?_;rintro e w9 ⟨rfl,b9⟩))
    refine (CC _).mono ?_
    rintro e w10 ⟨rfl,b10⟩
    have ho9:=ho.below b9
    have ho10:=ho9.below b10
    have hb9:=hb.trans (b9.mono hb.size)
    have hb10:=hb9.trans (b10.mono hb9.size)
    clear ho ho9 b9 b10
    go_wp2_with (first|(go_at_call 73;refine (CA _).mono ?_;rintro e w11 ⟨rfl,rfl⟩)|(at_builtin;refine appendC _ T _ d _ hT rfl rfl _ _ rfl w.heap.size w _ _ rfl rfl ho10 hb10 (by omega) (Nat.le_refl _) ?_;intro v5 w5 o5 b5))
    go_roundw
    case rel=>exact ⟨_,_,t,rfl,rfl,o5,ht,by rw[List.length_append];show _+1≤_;omega,b5,HN⟩
    case measure=>simp[intOf];omega
  ·have hi:=run_byt s q hp _ rfl
   by_cases h35:byt s q=35
   ·have CB:=fun W=>noteBegins_is false s q W hs2 hp h35 hn
    rw[h35] at hi
    clear H h35 hn hw h10
    go_wp2_with (go_at_call 71;refine (CB _).mono ?_;rintro e w9 ⟨rfl,rfl⟩)
    rw[Exit.noGoto_ret]
    go_ret3
    exact ⟨_,rfl,ho,hb⟩
   ·obtain ⟨y,hy⟩:∃ y:Nat,byt s q=y:=⟨_,rfl⟩
    rw[hy] at hi hw h10 h35
    have e1:((y:Int)==10)=false:=by rw[beq_eq_false_iff_ne];omega
    have e2:((y:Int)==35)=false:=by rw[beq_eq_false_iff_ne];omega
    have e3:((y:Int)==32)=false:=by rw[beq_eq_false_iff_ne];intro h;rw[h] at hw;cases hw
    have e4:((y:Int)==9)=false:=by rw[beq_eq_false_iff_ne];intro h;rw[h] at hw;cases hw
    clear H h35 hn hw h10 hy
    go_wp2
    rw[Exit.noGoto_ret]
    go_ret3
    exact ⟨_,rfl,ho,hb⟩
theorem tab_idx {s:ByteArray} {x q:Nat} (hq:q≤s.size) :
  (∃ y,TabN s x q y∧Lib.indexByte (s.extract x q).data.toList (9:Int).toNat.toUInt8=((y-x:Nat):Int))∨(NoTab s x q∧Lib.indexByte (s.extract x q).data.toList (9:Int).toNat.toUInt8=-1):=by
 have hl:(s.extract x q).data.toList=pieceL s x q:=by rw[piece_ext]
 have h9:(9:Int).toNat.toUInt8=9:=rfl
 rw[hl,h9]
 have hb:∀ j,j<q-x→byt s (x+j)=9→(pieceL s x q)[j]?=some 9:=fun j hj h=>by
  have hlen:j<(pieceL s x q).length:=by rw[piece_len hq];exact hj
  obtain ⟨e,he⟩:∃ e,(pieceL s x q)[j]?=some e:=⟨_,List.getElem?_eq_getElem hlen⟩
  have h2:=(piece_get s x q j e he).2
  rw[he]
  exact congrArg some (UInt8.toNat_inj.1 (by rw[←h2,h];rfl))
 have hge:=Lib.indexByte_ge (pieceL s x q) 9
 obtain ⟨i,hi⟩:∃ i,Lib.indexByte (pieceL s x q) 9=i:=⟨_,rfl⟩
 rw[hi] at hge ⊢
 by_cases h1:i=-1
 ·subst h1
  have hn:=Lib.indexByte_none hi
  refine .inr ⟨fun j h1 h2 h3=>hn (j-x) (hb (j-x) (by omega) (by rw[show x+(j-x)=j by omega];exact h3)),rfl⟩
 ·obtain ⟨o,rfl⟩:∃ o:Nat,i=o:=⟨i.toNat,by omega⟩
  obtain ⟨h2,h3⟩:=Lib.indexByte_some hi
  obtain ⟨h4,h5⟩:=piece_get s x q o 9 h2
  exact .inl ⟨x+o,⟨by omega,by omega,h5,fun j h6 h7 h8=>h3 (j-x) (by omega) (hb (j-x) (by omega) (by rw[show x+(j-x)=j by omega];exact h8))⟩,by omega⟩
theorem TabN.uniq {s:ByteArray} {a b x y:Nat} (h:TabN s a b x) (h':TabN s a b y):x=y:=by
 have h1:=h.2.2.2 y
 have h2:=h'.2.2.2 x
 have:=h.1
 have:=h'.1
 have:=h.2.2.1
 have:=h'.2.2.1
 by_cases h3:x<y
 ·exact absurd ‹byt s x=9› (h2 h3 ‹a≤x›)
 ·by_cases h4:y<x
  ·exact absurd ‹byt s y=9› (h1 h4 ‹a≤y›)
  ·omega
set_option maxRecDepth 100000 in
set_option maxHeartbeats 3200000 in
theorem noteSkip_is (L:List (List UInt8 × Nat)) (S:Bool) (E C:Int) (s:ByteArray) (at':Int) (w:World) (hs:s.size≤1000000) (hZ:NoteZ s false 0 at' L S E C) :
  Calls Tryz.prog 20 #[.string s,.int .i64 at'] w fun e w'=>∃ v,e=.returned (.tuple #[v,.bool S,.int .i64 E,.int .i64 C])∧OutC w.heap.size w' v L∧Below w.heap.size w w':=by
 have hs2:s.size≤1099511627776:=by omega
 obtain ⟨L0,S0,q,E',rfl,hP,r,t,f,i,hB,hE,hF,hI,hc⟩:=hZ.pass
 have hac:=clampN_le at' s.size
 obtain ⟨a,ha⟩:∃ a,clampN at' s.size=a:=⟨_,rfl⟩
 rw[ha] at hP hc hac
 obtain ⟨haq,hq⟩:=hP.le hac
 have CA:=fun W=>noteClamp_is a s at' W hs2 ha
 have CP:=fun W=>notePass_is L0 S0 q s a W hs hac hP
 obtain ⟨x,hx⟩:∃ x,max a r=x:=⟨_,rfl⟩
 have CL:=fun W=>noteLast_is x s a q r W hs2 haq hq hB hx
 have hrq:=hB.1
 have hxq:x≤q:=by omega
 have hcq:clampN (q:Int) s.size=q:=clampN_self q s.size hq
 obtain ⟨k,hk⟩:∃ k,kindN s r t f=k:=⟨_,rfl⟩
 have CK:=fun W=>rowsKind_is k r t f s (q:Int) W hs2 (by rw[hcq];exact hB) (by rw[hcq];exact hE) hF hk
 rw[hk] at hc
 have hcx:clampN (x:Int) s.size=x:=clampN_self x s.size (by omega)
 obtain ⟨rx,hrx⟩:=RowB.ex s x
 have CC:=fun W=>Col_is rx x s (x:Int) W hs2 hcx hrx
 have hcol:((x:Int)-(rx:Int)==0)=decide (a≤r):=by
  rw[Bool.eq_iff_iff,beq_iff_eq,decide_eq_true_eq]
  by_cases har:a≤r
  ·have hxr:x=r:=by omega
   rw[hxr] at hrx
   have hBr:RowB s r r:=hB.within hE (Nat.le_refl _) (by have:=hE.1;omega)
   have:=hrx.uniq hBr
   omega
  ·have hxa:x=a:=by omega
   have hBa:RowB s a r:=hB.within hE (by omega) (by have:=hE.1;omega)
   rw[hxa] at hrx
   have:=hrx.uniq hBa
   omega
 have g1:(x:Int)≤(q:Int):=by omega
 have g2:(q:Int)≤(s.size:Int):=by omega
 obtain ⟨ix,hix⟩:∃ ix,Lib.indexByte (s.extract x q).data.toList (9:Int).toNat.toUInt8=ix:=⟨_,rfl⟩
 have CI:∀ W,Calls Tryz.prog 42 #[.string (s.extract x q),.int .u8 9] W fun e w'=>e=.returned (.int .i64 ix)∧w'=W:=fun W=>by
  have h1:=Tryz.strings_IndexByte (s.extract x q) 9 W
  rw[←hix]
  exact h1
 have htt:∀ y,TabN s x q y→(x:Int)+ix=(y:Int)∧0≤ix:=fun y hy=>by
  have h:=tab_idx (s:=s) (x:=x) (q:=q) hq
  rw[hix] at h
  rcases h with ⟨y2,h1,h2⟩|⟨h1,_⟩
  ·have h3:=hy.uniq h1
   have h4:=hy.1
   omega
  ·exact absurd hy.2.2.1 (h1 _ hy.2.1 hy.1)
 have htn:NoTab s x q→ix=-1:=fun hn=>by
  have h:=tab_idx (s:=s) (x:=x) (q:=q) hq
  rw[hix] at h
  rcases h with ⟨y2,h1,_⟩|⟨_,h1⟩
  ·exact absurd h1.2.2.1 (hn _ h1.2.1 h1.1)
  ·exact h1
 obtain ⟨cz,hcz⟩:∃ cz:Int,(x:Int)-(rx:Int)=cz:=⟨_,rfl⟩
 rw[hcz] at hcol CC
 have hix1:-1≤ix:=by rw[←hix];exact Lib.indexByte_ge _ _
 clear hix hZ hP ha hB hE hF hI hk hrx hcz
 rcases hc with ⟨_,har,h5,hT,rfl,rfl,rfl⟩|⟨h,_⟩|⟨h1,_,rfl,rfl,rfl,rfl⟩
 ·subst h5
  have hxr:x=r:=by omega
  subst hxr
  obtain ⟨hsum,hge⟩:=htt E' hT
  rw[decide_eq_true har] at hcol
  have hEs:E'≤s.size:=by have:=hT.2.1;omega
  clear htt htn hT
  go_enter Tryz.func20,Tryz.ntmps20
  go_wp2_with (go_at_call 39;refine (CA _).mono ?_;rintro e w9 ⟨rfl,rfl⟩)
  refine (CP _).mono ?_
  rintro e w1 ⟨v,rfl,ho,hb⟩
  go_wp2_with (first|(go_at_call 41;refine (CL _).mono ?_;rintro e w9 ⟨rfl,rfl⟩)|(go_at_call 42;refine (CI _).mono ?_;rintro e w9 ⟨rfl,rfl⟩)|(go_at_call 43;refine (CC _).mono ?_;rintro e w9 ⟨rfl,rfl⟩)|(go_at_call 32;refine (CK _).mono ?_;rintro e w9 ⟨rfl,rfl⟩))
  refine bodyPost_ret (results_tmp4 rfl _ _ _) rfl ?_
  exact ⟨_,rfl,OutC.nil _ _,hb⟩
 ·cases h
 ·by_cases hge:0≤ix
  ·by_cases har:a≤r
   ·have hk5:(k==5)=false:=by
     rw[beq_eq_false_iff_ne]
     intro hk
     have hxr:x=r:=by omega
     have:=htn (by rw[hxr];exact h1 rfl har hk)
     omega
    rw[decide_eq_true har] at hcol
    clear htt htn h1
    go_enter Tryz.func20,Tryz.ntmps20
    go_wp2_with (go_at_call 39;refine (CA _).mono ?_;rintro e w9 ⟨rfl,rfl⟩)
    refine (CP _).mono ?_
    rintro e w1 ⟨v,rfl,ho,hb⟩
    go_wp2_with (first|(go_at_call 41;refine (CL _).mono ?_;rintro e w9 ⟨rfl,rfl⟩)|(go_at_call 42;refine (CI _).mono ?_;rintro e w9 ⟨rfl,rfl⟩)|(go_at_call 43;refine (CC _).mono ?_;rintro e w9 ⟨rfl,rfl⟩)|(go_at_call 32;refine (CK _).mono ?_;rintro e w9 ⟨rfl,rfl⟩))
    refine bodyPost_ret (results_tmp4 rfl _ _ _) rfl ?_
    exact ⟨_,rfl,ho,hb⟩
   ·rw[decide_eq_false har] at hcol
    clear htt htn h1
    go_enter Tryz.func20,Tryz.ntmps20
    go_wp2_with (go_at_call 39;refine (CA _).mono ?_;rintro e w9 ⟨rfl,rfl⟩)
    refine (CP _).mono ?_
    rintro e w1 ⟨v,rfl,ho,hb⟩
    go_wp2_with (first|(go_at_call 41;refine (CL _).mono ?_;rintro e w9 ⟨rfl,rfl⟩)|(go_at_call 42;refine (CI _).mono ?_;rintro e w9 ⟨rfl,rfl⟩)|(go_at_call 43;refine (CC _).mono ?_;rintro e w9 ⟨rfl,rfl⟩)|(go_at_call 32;refine (CK _).mono ?_;rintro e w9 ⟨rfl,rfl⟩))
    refine bodyPost_ret (results_tmp4 rfl _ _ _) rfl ?_
    exact ⟨_,rfl,ho,hb⟩
  ·have hgi:decide ((0:Int)≤ix)=false:=decide_eq_false hge
   clear htt htn h1
   go_enter Tryz.func20,Tryz.ntmps20
   go_wp2_with (go_at_call 39;refine (CA _).mono ?_;rintro e w9 ⟨rfl,rfl⟩)
   refine (CP _).mono ?_
   rintro e w1 ⟨v,rfl,ho,hb⟩
   go_wp2_with (first|(go_at_call 41;refine (CL _).mono ?_;rintro e w9 ⟨rfl,rfl⟩)|(go_at_call 42;refine (CI _).mono ?_;rintro e w9 ⟨rfl,rfl⟩)|(go_at_call 43;refine (CC _).mono ?_;rintro e w9 ⟨rfl,rfl⟩)|(go_at_call 32;refine (CK _).mono ?_;rintro e w9 ⟨rfl,rfl⟩))
   refine bodyPost_ret (results_tmp4 rfl _ _ _) rfl ?_
   exact ⟨_,rfl,ho,hb⟩
end Go.Proofs.YthcmkpiajkbpnaaGreatDoor

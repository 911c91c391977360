/- Parts of the proof, put together from smaller texts (blanks that Lean does not want are struck). Conditions: those that each theorem writes out. -/
import Derived.BigQuiet
import Derived.Deep.DeepCutAuto
import Derived.Deep.DrawnRows
import Derived.Deep.LoopGhost
import Derived.Lib.SlTrimSet
import Derived.Shelf.Strings.SlTrimAscii
import Derived.Test.YtafhgbokdfhapaaGreatDoorZ00
import Derived.Test.YtafhgbokdfhapaaGreatDoorZ01
import Derived.Test.YtafhgbokdfhapaaGreatDoorZ02
import Derived.Test.YtafhgbokdfhapaaGreatDoorZ03
import Derived.Test.YtafhgbokdfhapaaGreatDoorZ06
import Derived.Test.YtafhgbokdfhapaaGreatDoorZ07
namespace Go.Proofs.YtafhgbokdfhapaaGreatDoor
open Go.RowKit
instance (s:ByteArray) (a b x:Nat):Decidable (TabN s a b x):=by unfold TabN;infer_instance
instance (s:ByteArray) (a b:Nat):Decidable (NoTab s a b):=by unfold NoTab;infer_instance
end Go.Proofs.YtafhgbokdfhapaaGreatDoor
namespace Go.Proofs.YtafhgbokdfhapaaGreatDoor
open Go.RowKit
theorem white_in (b:UInt8):([32,9]:List UInt8).contains b=U.white (b.toNat:Int):=by
 have H:∀ k:Fin 256,([32,9]:List UInt8).contains k.val.toUInt8=U.white (k.val.toUInt8.toNat:Int):=by decide +kernel
 have h:=H ⟨b.toNat,b.toNat_lt⟩
 have e:b.toNat.toUInt8=b:=UInt8.toNat_inj.1 (by simp)
 rw[←e]
 exact h
theorem piece_get (s:ByteArray) (a b j:Nat) (x:UInt8) (h:(pieceL s a b)[j]?=some x):j<b-a∧byt s (a+j)=x.toNat:=by
 unfold pieceL at h
 rw[List.getElem?_take] at h
 split at h
 ·rename_i hj
  rw[List.getElem?_drop] at h
  refine ⟨hj,?_⟩
  rw[byt_list]
  simp[List.getD,h]
 ·cases h
theorem trim_piece {s:ByteArray} {a b f:Nat} (hb:b≤s.size) (hF:FirN s a b f):Lib.trimLeftS (pieceL s a b) [32,9]=pieceL s f b:=by
 obtain ⟨h1,h2,h3,h4⟩:=hF
 rw[Lib.trimLeftS_drop (pieceL s a b) [32,9] (f-a) (by rw[piece_len hb];omega) (fun j x hj hx=>?_) (fun x hx=>?_)]
 ·unfold pieceL
  rw[List.drop_take,List.drop_drop,show a+(f-a)=f by omega,show b-a-(f-a)=b-f by omega]
 ·obtain ⟨_,h5⟩:=piece_get s a b j x hx
  rw[white_in,←h5]
  exact h3 (a+j) (by omega) (by omega)
 ·obtain ⟨h6,h5⟩:=piece_get s a b (f-a) x hx
  rw[white_in,←h5,show a+(f-a)=f by omega]
  rcases h4 with h4|h4
  ·omega
  ·exact h4
theorem trim_tail {s:ByteArray} {a b e:Nat} (hb:b≤s.size) (hE:BakN s a b e):Lib.trimRightS (pieceL s a b) [32,9]=pieceL s a e:=by
 obtain ⟨h1,h2,h3,h4⟩:=hE
 rw[Lib.trimRightS_take (pieceL s a b) [32,9] (e-a) (by rw[piece_len hb];omega) (fun j x hj hx=>?_) (fun x h0 hx=>?_)]
 ·unfold pieceL
  rw[List.take_take,Nat.min_eq_left (by omega)]
 ·obtain ⟨h6,h5⟩:=piece_get s a b j x hx
  rw[white_in,←h5]
  exact h3 (a+j) (by omega) (by omega)
 ·obtain ⟨h6,h5⟩:=piece_get s a b (e-a-1) x hx
  rw[white_in,←h5,show a+(e-a-1)=e-1 by omega]
  exact h4.resolve_left (by omega)
end Go.Proofs.YtafhgbokdfhapaaGreatDoor
namespace Go.Proofs.YtafhgbokdfhapaaGreatDoor
open Go.RowKit Go.Shelf
theorem white_cut:∀ (j:Nat) b,(⟨#[32,9]⟩:ByteArray).data.toList[j]?=some b→b.toNat<128:=by
 intro j b h
 have hm:b∈([32,9]:List UInt8):=List.mem_of_getElem? h
 simp at hm
 rcases hm with rfl|rfl <;> decide
theorem quotTrimR (l:List UInt8) (s:ByteArray) (w:World) (hs:s.size≤9223372036854775807) (h:Lib.trimRightS s.data.toList [32,9]=l) :
  Calls Tryz.prog 151 #[.string s,.string ⟨#[32,9]⟩] w fun e w'=>e=.returned (.string ⟨l.toArray⟩)∧Below w.heap.size w w':=by
 subst h
 exact Any.strings_TrimRight_laid Tryz.lays162 (by kernel_rfl) s ⟨#[32,9]⟩ w hs (by decide) white_cut
end Go.Proofs.YtafhgbokdfhapaaGreatDoor
namespace Go.Proofs.YtafhgbokdfhapaaGreatDoor
open Go.RowKit
theorem noteClone_is (s:ByteArray) (w:World) (hs:s.size≤1099511627776) :
  Calls Tryz.prog 52 #[.string s] w fun e w'=>e=.returned (.string s)∧Below w.heap.size w w':=by
 go_enter Tryz.func52,Tryz.ntmps52
 go_wp2_with fail
 refine (Tryz.stringslite_Clone s _ (Nat.le_trans hs (by decide))).mono ?_
 rintro e w1 ⟨rfl,b1⟩
 go_wp2
 go_ret
 exact ⟨rfl,b1⟩
theorem noteClamp_is (c:Nat) (s:ByteArray) (at':Int) (w:World) (hs:s.size≤1099511627776) (h:clampN at' s.size=c) :
  Calls Tryz.prog 110 #[.string s,.int .i64 at'] w fun e w'=>e=.returned (.int .i64 (c:Int))∧w=w':=by
 have hx:min (max at' 0) (s.size:Int)=(c:Int):=by
  rw[←h];unfold clampN;omega
 clear h
 go_enter Tryz.func110,Tryz.ntmps110
 go_wp2
 go_ret
 exact ⟨rfl,rfl⟩
theorem note_index (b:UInt8):0≤Lib.indexByte [32,9,10] b↔(U.white (b.toNat:Int)=true∨b.toNat=10):=by
 have H:∀ k:Fin 256,(0≤Lib.indexByte [32,9,10] k.val.toUInt8↔(U.white (k.val.toUInt8.toNat:Int)=true∨k.val.toUInt8.toNat=10)):=by decide +kernel
 have h:=H ⟨b.toNat,b.toNat_lt⟩
 have e:b.toNat.toUInt8=b:=UInt8.toNat_inj.1 (by simp)
 rw[←e]
 exact h
theorem noteBegins_is (r:Bool) (s:ByteArray) (p:Nat) (w:World) (hs:s.size≤1099511627776) (hp:p<s.size) (h35:byt s p=35) (h:ntB s p=r) :
  Calls Tryz.prog 159 #[.string s,.int .i64 (p:Int)] w fun e w'=>e=.returned (.bool r)∧w=w':=by
 unfold ntB at h
 rcases Nat.eq_zero_or_pos p with rfl|h0
 ·have hr:r=true:=by rw[←h];exact decide_eq_true ⟨h35,.inl rfl⟩
  subst hr
  clear h
  go_enter Tryz.func159,Tryz.ntmps159
  go_wp2
  go_ret
  exact ⟨rfl,rfl⟩
 ·obtain ⟨b,hb⟩:∃ b:UInt8,b=s.data[p-1]!:=⟨_,rfl⟩
  have hbb:byt s (p-1)=b.toNat:=by rw[hb,byt_bang s (p-1) (by omega)]
  have hi:=run_byt s (p-1) (by omega) _ rfl
  rw[hbb] at hi h
  have e1:((p-1:Nat):Int)=(p:Int)-1:=by omega
  rw[e1] at hi
  have hr:decide (0≤Lib.indexByte [32,9,10] b)=r:=by
   rw[←h,Bool.eq_iff_iff,decide_eq_true_eq,decide_eq_true_eq,note_index]
   constructor
   ·intro hc;exact ⟨h35,.inr hc⟩
   ·rintro ⟨_,hc|hc⟩
    ·omega
    ·exact hc
  have hbu:((b.toNat:Nat):Int).toNat.toUInt8=b:=UInt8.toNat_inj.1 (by simp)
  have hp0:((p:Int)==0)=false:=by rw[beq_eq_false_iff_ne];omega
  obtain ⟨y,hy⟩:∃ y:Int,((b.toNat:Nat):Int)=y:=⟨_,rfl⟩
  rw[hy] at hi hbu
  obtain ⟨k,hk⟩:∃ k:Int,Lib.indexByte [32,9,10] b=k:=⟨_,rfl⟩
  rw[hk] at hr
  have CI:∀ W,Calls Tryz.prog 48 #[.string ⟨#[32,9,10]⟩,.int .u8 y] W fun e w'=>e=.returned (.int .i64 k)∧w'=W:=fun W=>by
   have h1:=Tryz.strings_IndexByte ⟨#[32,9,10]⟩ y W
   rw[hbu] at h1
   rw[←hk]
   exact h1
  clear h hb hbb hy hbu hk e1 h35
  go_enter Tryz.func159,Tryz.ntmps159
  go_wp2_with (go_at_call 48;refine (CI _).mono ?_;rintro e w9 ⟨rfl,rfl⟩)
  go_ret
  exact ⟨by rw[←hr];rfl,rfl⟩
theorem last_piece {s:ByteArray} {a q r:Nat} (haq:a≤q) (hq:q≤s.size) (hB:RowB s q r):Lib.lastIndexByte (s.extract a q) 10+1=((max a r-a:Nat):Int):=by
 have hsz:(s.extract a q).size=q-a:=size_piece s a q hq
 have h:=last_begin (s.extract a q) (q-a) (max a r-a) (by omega) ⟨by have:=hB.1;omega,fun j h1 h2=>?_,?_⟩
 ·have e:(s.extract a q).extract 0 (q-a)=s.extract a q:=by
   rw[ByteArray.extract_extract]
   congr 1 <;> omega
  rw[e] at h
  exact h
 ·rw[byt_extract s a q j (by omega)]
  exact hB.2.1 (a+j) (by omega) (by omega)
 ·by_cases har:r≤a
  ·left;omega
  ·right
   rw[byt_extract s a q _ (by have:=hB.1;omega),show a+(max a r-a-1)=r-1 by omega]
   exact hB.2.2.resolve_left (by omega)
theorem noteLast_is (x:Nat) (s:ByteArray) (a q r:Nat) (w:World) (hs:s.size≤1099511627776) (haq:a≤q) (hq:q≤s.size) (hB:RowB s q r) (hx:max a r=x) :
  Calls Tryz.prog 112 #[.string s,.int .i64 (a:Int),.int .i64 (q:Int)] w fun e w'=>e=.returned (.int .i64 (x:Int))∧w=w':=by
 have h1:=last_piece haq hq hB
 have hsz:(s.extract a q).size=q-a:=size_piece s a q hq
 have hrq:=hB.1
 obtain ⟨i,hi⟩:∃ i,i=Lib.lastIndexByte (s.extract a q) 10:=⟨_,rfl⟩
 rw[←hi] at h1
 have e1:(a:Int)+i+1=(x:Int):=by omega
 have e0:-1≤i:=by omega
 have e2:i≤(s.size:Int):=by omega
 have HI:=Lib.hid hi
 have g1:(a:Int)≤(q:Int):=by omega
 have g2:(q:Int)≤(s.size:Int):=by omega
 clear hi h1 hx hB hrq
 go_enter Tryz.func112,Tryz.ntmps112
 go_wp2_with fail
 refine (Tryz.strings_LastIndexByte (s.extract a q) 10 (by rw[hsz];omega) _).mono ?_
 rintro e w1 ⟨rfl,rfl⟩
 rw[←HI.out]
 go_wp2
 go_ret
 exact ⟨rfl,rfl⟩
theorem PW.inv {s:ByteArray} {a E p:Nat} {L o:List (List UInt8 × Nat)} {S b:Bool} (h:PW s a L S E p o b) :
  (¬ p<s.size∧L=o∧S=b∧E=p)∨(p<s.size∧U.white (byt s p:Int)=true∧PW s a L S E (p+1) o b)∨(p<s.size∧byt s p=10∧PW s a L S E (p+1) o b) ∨
  (∃ rb t e k d,p<s.size∧ntB s p=true∧RowB s p rb∧RowE s p t∧BakN s (p+1) t e∧Abv s p k d∧PW s a L S E t (o++[(pieceL s (p+1) e,d)]) (b||decide (rb<a))) ∨
  (p<s.size∧U.white (byt s p:Int)=false∧byt s p≠10∧ntB s p=false∧L=o∧S=b∧E=p):=by
 cases h with
 | over h1 h2 h3 h4=>exact .inl ⟨h1,h2,h3,h4⟩
 | white h1 h2 h3=>exact .inr (.inl ⟨h1,h2,h3⟩)
 | lf h1 h2 h3=>exact .inr (.inr (.inl ⟨h1,h2,h3⟩))
 | com h1 h2 h3 h4 h5 h6 h7=>exact .inr (.inr (.inr (.inl ⟨_,_,_,_,_,h1,h2,h3,h4,h5,h6,h7⟩)))
 | stop h1 h2 h3 h4 h5 h6 h7=>exact .inr (.inr (.inr (.inr ⟨h1,h2,h3,h4,h5,h6,h7⟩)))
theorem white_nums {b:Nat} (h:U.white (b:Int)=true):b=32∨b=9:=by
 unfold U.white at h
 simp at h
 omega
set_option maxRecDepth 100000 in
set_option maxHeartbeats 3200000 in
theorem notePass_is (L:List (List UInt8 × Nat)) (S:Bool) (q:Nat) (s:ByteArray) (a:Nat) (w:World) (hs:s.size≤1000000) (ha:a≤s.size) (hZ:PW s a L S q a [] false) :
  Calls Tryz.prog 111 #[.string s,.int .i64 (a:Int)] w fun e w'=>∃ v,e=.returned (.tuple #[v,.bool S,.int .i64 (q:Int)])∧OutC w.heap.size w' v L∧Below w.heap.size w w':=by
 have hs2:s.size≤1099511627776:=by omega
 have HZ:=Lib.hid hZ
 clear hZ
 go_enter Tryz.func111,Tryz.ntmps111
 go_wp2
 go_step3
 go_wp2
 go_step3
 go_wp2
 go_loopw [4,5,6] (fun v4 v5 v6 wr=>∃ (o:List (List UInt8 × Nat)) (b:Bool) (p:Nat),v5=.bool b∧v6=.int .i64 (p:Int)∧OutC w.heap.size wr v4 o∧p≤s.size∧o.length≤p∧Below w.heap.size w wr∧Hid (PW s a L S q p o b)) (fun _ _ v6 _=>s.size-(intOf v6).toNat)
 case atStart=>exact ⟨[],false,a,rfl,rfl,OutC.nil _ _,ha,Nat.zero_le _,Below.refl _ _,HZ⟩
 case round=>
  obtain ⟨o,b,p,rfl,rfl,ho,hp0,hol,hb,H⟩:=hrel
  obtain ⟨ao,cap,rfl⟩:=ho.form
  clear HZ
  rcases H.out.inv with ⟨hp,rfl,rfl,rfl⟩|⟨hp,hw,hN⟩|⟨hp,h10,hN⟩|⟨rb,t,e,kA,d,hp,hn,hB,hE,hK,hA,hN⟩|⟨hp,hw,h10,hn,rfl,rfl,rfl⟩
  ·clear H
   go_wp2
   rw[Exit.noGoto_ret]
   go_ret3
   exact ⟨_,rfl,ho,hb⟩
  ·have hi:=run_byt s p hp _ rfl
   have HN:=Lib.hid hN
   rcases white_nums hw with h|h <;> rw[h] at hi <;> clear hN H h hw
   ·go_wp2
    go_roundw
    case rel=>exact ⟨o,b,p+1,rfl,by go_num,ho,by omega,by omega,hb,HN⟩
    case measure=>simp[intOf];omega
   ·go_wp2
    go_roundw
    case rel=>exact ⟨o,b,p+1,rfl,by go_num,ho,by omega,by omega,hb,HN⟩
    case measure=>simp[intOf];omega
  ·have hi:=run_byt s p hp _ rfl
   rw[h10] at hi
   have HN:=Lib.hid hN
   clear hN H h10
   go_wp2
   go_roundw
   case rel=>exact ⟨o,b,p+1,rfl,by go_num,ho,by omega,by omega,hb,HN⟩
   case measure=>simp[intOf];omega
  ·have hi:=run_byt s p hp _ rfl
   have h35:=ntB_byte hn
   have hpt:=nt_row hn hp hE
   have ht:=hE.2.1
   have hcp:clampN (p:Int) s.size=p:=clampN_self p s.size (by omega)
   have CB:=fun W=>noteBegins_is true s p W hs2 hp h35 hn
   have CR:=fun W=>Row_is rb t s (p:Int) W hs2 (by rw[hcp];exact hB) (by rw[hcp];exact hE)
   have CA:=fun W=>rowsAbove_is d p kA s (p:Int) W hs2 hcp hA
   obtain ⟨X,hX⟩:∃ X:ByteArray,s.extract (p+1) t=X:=⟨_,rfl⟩
   have hXs:X.size≤1000000:=by rw[←hX,ByteArray.size_extract];omega
   have hXl:X.data.toList=pieceL s (p+1) t:=by rw[←hX,piece_ext]
   obtain ⟨T,hT⟩:∃ T:ByteArray,(⟨(pieceL s (p+1) e).toArray⟩:ByteArray)=T:=⟨_,rfl⟩
   have CT:=fun W=>quotTrimR (pieceL s (p+1) e) X W (by omega) (by rw[hXl];exact trim_tail ht hK)
   rw[hT] at CT
   have hTs:T.size≤1000000:=by
    rw[←hT,←piece_ext,ByteArray.size_extract]
    have:=hK.2.1
    omega
   have CC:=fun W=>noteClone_is T W (by omega)
   have HN:=Lib.hid hN
   have g1:(p:Int)+1≤(t:Int):=by omega
   have g2:(t:Int)≤(s.size:Int):=by omega
   rw[h35] at hi
   clear hN H h35 hn hB hE hK hA hXl
   cases b with
   | true=>
    rw[Bool.true_or] at HN
    go_wp2_with (first|(go_at_call 159;refine (CB _).mono ?_;rintro e w9 ⟨rfl,rfl⟩)|(go_at_call 27;refine (CR _).mono ?_;rintro e w9 ⟨rfl,rfl⟩)|(go_at_call 151;refine (CT _).mono ?_;rintro e w9 ⟨rfl,b9⟩))
    refine (CC _).mono ?_
    rintro e w10 ⟨rfl,b10⟩
    have ho9:=ho.below b9
    have ho10:=ho9.below b10
    have hb9:=hb.trans (b9.mono hb.size)
    have hb10:=hb9.trans (b10.mono hb9.size)
    clear ho ho9 b9 b10
    go_wp2_with (first|(go_at_call 114;refine (CA _).mono ?_;rintro e w11 ⟨rfl,rfl⟩)|(at_builtin;refine appendC _ T _ d _ hT rfl rfl _ _ rfl w.heap.size w _ _ rfl rfl ho10 hb10 (by omega) (Nat.le_refl _) ?_;intro v5 w5 o5 b5))
    go_roundw
    case rel=>exact ⟨_,_,t,rfl,rfl,o5,ht,by rw[List.length_append];show _+1≤_;omega,b5,HN⟩
    case measure=>simp[intOf];omega
   | false=>
    rw[Bool.false_or] at HN
    go_wp2_with (first|(go_at_call 159;refine (CB _).mono ?_;rintro e w9 ⟨rfl,rfl⟩)|(go_at_call 27;refine (CR _).mono ?_;rintro e w9 ⟨rfl,rfl⟩)|(go_at_call 151;refine (CT _).mono ?_;rintro e w9 ⟨rfl,b9⟩))
    refine (CC _).mono ?_
    rintro e w10 ⟨rfl,b10⟩
    have ho9:=ho.below b9
    have ho10:=ho9.below b10
    have hb9:=hb.trans (b9.mono hb.size)
    have hb10:=hb9.trans (b10.mono hb9.size)
    clear ho ho9 b9 b10
    go_wp2_with (first|(go_at_call 114;refine (CA _).mono ?_;rintro e w11 ⟨rfl,rfl⟩)|(at_builtin;refine appendC _ T _ d _ hT rfl rfl _ _ rfl w.heap.size w _ _ rfl rfl ho10 hb10 (by omega) (Nat.le_refl _) ?_;intro v5 w5 o5 b5))
    go_roundw
    case rel=>exact ⟨_,_,t,rfl,rfl,o5,ht,by rw[List.length_append];show _+1≤_;omega,b5,HN⟩
    case measure=>simp[intOf];omega
  ·have hi:=run_byt s q hp _ rfl
   by_cases h35:byt s q=35
   ·have CB:=fun W=>noteBegins_is false s q W hs2 hp h35 hn
    rw[h35] at hi
    clear H h35 hn hw h10
    go_wp2_with (go_at_call 159;refine (CB _).mono ?_;rintro e w9 ⟨rfl,rfl⟩)
    rw[Exit.noGoto_ret]
    go_ret3
    exact ⟨_,rfl,ho,hb⟩
   ·obtain ⟨y,hy⟩:∃ y:Nat,byt s q=y:=⟨_,rfl⟩
    rw[hy] at hi hw h10 h35
    have e1:((y:Int)==10)=false:=by rw[beq_eq_false_iff_ne];omega
    have e2:((y:Int)==35)=false:=by rw[beq_eq_false_iff_ne];omega
    have e3:((y:Int)==32)=false:=by rw[beq_eq_false_iff_ne];intro h;rw[h] at hw;cases hw
    have e4:((y:Int)==9)=false:=by rw[beq_eq_false_iff_ne];intro h;rw[h] at hw;cases hw
    clear H h35 hn hw h10 hy
    go_wp2
    rw[Exit.noGoto_ret]
    go_ret3
    exact ⟨_,rfl,ho,hb⟩
theorem tab_idx {s:ByteArray} {x q:Nat} (hq:q≤s.size) :
  (∃ y,TabN s x q y∧Lib.indexByte (s.extract x q).data.toList (9:Int).toNat.toUInt8=((y-x:Nat):Int))∨(NoTab s x q∧Lib.indexByte (s.extract x q).data.toList (9:Int).toNat.toUInt8=-1):=by
 have hl:(s.extract x q).data.toList=pieceL s x q:=by rw[piece_ext]
 have h9:(9:Int).toNat.toUInt8=9:=rfl
 rw[hl,h9]
 have hb:∀ j,j<q-x→byt s (x+j)=9→(pieceL s x q)[j]?=some 9:=fun j hj h=>by
  have hlen:j<(pieceL s x q).length:=by rw[piece_len hq];exact hj
  obtain ⟨e,he⟩:∃ e,(pieceL s x q)[j]?=some e:=⟨_,List.getElem?_eq_getElem hlen⟩
  have h2:=(piece_get s x q j e he).2
  rw[he]
  exact congrArg some (UInt8.toNat_inj.1 (by rw[←h2,h];rfl))
 have hge:=Lib.indexByte_ge (pieceL s x q) 9
 obtain ⟨i,hi⟩:∃ i,Lib.indexByte (pieceL s x q) 9=i:=⟨_,rfl⟩
 rw[hi] at hge ⊢
 by_cases h1:i=-1
 ·subst h1
  have hn:=Lib.indexByte_none hi
  refine .inr ⟨fun j h1 h2 h3=>hn (j-x) (hb (j-x) (by omega) (by rw[show x+(j-x)=j by omega];exact h3)),rfl⟩
 ·obtain ⟨o,rfl⟩:∃ o:Nat,i=o:=⟨i.toNat,by omega⟩
  obtain ⟨h2,h3⟩:=Lib.indexByte_some hi
  obtain ⟨h4,h5⟩:=piece_get s x q o 9 h2
  exact .inl ⟨x+o,⟨by omega,by omega,h5,fun j h6 h7 h8=>h3 (j-x) (by omega) (hb (j-x) (by omega) (by rw[show x+(j-x)=j by omega];exact h8))⟩,by omega⟩
theorem TabN.uniq {s:ByteArray} {a b x y:Nat} (h:TabN s a b x) (h':TabN s a b y):x=y:=by
 have h1:=h.2.2.2 y
 have h2:=h'.2.2.2 x
 have:=h.1
 have:=h'.1
 have:=h.2.2.1
 have:=h'.2.2.1
 by_cases h3:x<y
 ·exact absurd ‹byt s x=9› (h2 h3 ‹a≤x›)
 ·by_cases h4:y<x
  ·exact absurd ‹byt s y=9› (h1 h4 ‹a≤y›)
  ·omega
set_option maxRecDepth 100000 in
set_option maxHeartbeats 3200000 in
theorem noteSkip_is (L:List (List UInt8 × Nat)) (S:Bool) (E C:Int) (s:ByteArray) (at':Int) (w:World) (hs:s.size≤1000000) (hZ:NoteZ s false 0 at' L S E C) :
  Calls Tryz.prog 62 #[.string s,.int .i64 at'] w fun e w'=>∃ v,e=.returned (.tuple #[v,.bool S,.int .i64 E,.int .i64 C])∧OutC w.heap.size w' v L∧Below w.heap.size w w':=by
 have hs2:s.size≤1099511627776:=by omega
 obtain ⟨L0,S0,q,E',rfl,hP,r,t,f,i,hB,hE,hF,hI,hc⟩:=hZ.pass
 have hac:=clampN_le at' s.size
 obtain ⟨a,ha⟩:∃ a,clampN at' s.size=a:=⟨_,rfl⟩
 rw[ha] at hP hc hac
 obtain ⟨haq,hq⟩:=hP.le hac
 have CA:=fun W=>noteClamp_is a s at' W hs2 ha
 have CP:=fun W=>notePass_is L0 S0 q s a W hs hac hP
 obtain ⟨x,hx⟩:∃ x,max a r=x:=⟨_,rfl⟩
 have CL:=fun W=>noteLast_is x s a q r W hs2 haq hq hB hx
 have hrq:=hB.1
 have hxq:x≤q:=by omega
 have hcq:clampN (q:Int) s.size=q:=clampN_self q s.size hq
 obtain ⟨k,hk⟩:∃ k,kindN s r t f=k:=⟨_,rfl⟩
 have CK:=fun W=>rowsKind_is k r t f s (q:Int) W hs2 (by rw[hcq];exact hB) (by rw[hcq];exact hE) hF hk
 rw[hk] at hc
 have hcx:clampN (x:Int) s.size=x:=clampN_self x s.size (by omega)
 obtain ⟨rx,hrx⟩:=RowB.ex s x
 have CC:=fun W=>Col_is rx x s (x:Int) W hs2 hcx hrx
 have hcol:((x:Int)-(rx:Int)==0)=decide (a≤r):=by
  rw[Bool.eq_iff_iff,beq_iff_eq,decide_eq_true_eq]
  by_cases har:a≤r
  ·have hxr:x=r:=by omega
   rw[hxr] at hrx
   have hBr:RowB s r r:=hB.within hE (Nat.le_refl _) (by have:=hE.1;omega)
   have:=hrx.uniq hBr
   omega
  ·have hxa:x=a:=by omega
   have hBa:RowB s a r:=hB.within hE (by omega) (by have:=hE.1;omega)
   rw[hxa] at hrx
   have:=hrx.uniq hBa
   omega
 have g1:(x:Int)≤(q:Int):=by omega
 have g2:(q:Int)≤(s.size:Int):=by omega
 obtain ⟨ix,hix⟩:∃ ix,Lib.indexByte (s.extract x q).data.toList (9:Int).toNat.toUInt8=ix:=⟨_,rfl⟩
 have CI:∀ W,Calls Tryz.prog 48 #[.string (s.extract x q),.int .u8 9] W fun e w'=>e=.returned (.int .i64 ix)∧w'=W:=fun W=>by
  have h1:=Tryz.strings_IndexByte (s.extract x q) 9 W
  rw[←hix]
  exact h1
 have htt:∀ y,TabN s x q y→(x:Int)+ix=(y:Int)∧0≤ix:=fun y hy=>by
  have h:=tab_idx (s:=s) (x:=x) (q:=q) hq
  rw[hix] at h
  rcases h with ⟨y2,h1,h2⟩|⟨h1,_⟩
  ·have h3:=hy.uniq h1
   have h4:=hy.1
   omega
  ·exact absurd hy.2.2.1 (h1 _ hy.2.1 hy.1)
 have htn:NoTab s x q→ix=-1:=fun hn=>by
  have h:=tab_idx (s:=s) (x:=x) (q:=q) hq
  rw[hix] at h
  rcases h with ⟨y2,h1,_⟩|⟨_,h1⟩
  ·exact absurd h1.2.2.1 (hn _ h1.2.1 h1.1)
  ·exact h1
 obtain ⟨cz,hcz⟩:∃ cz:Int,(x:Int)-(rx:Int)=cz:=⟨_,rfl⟩
 rw[hcz] at hcol CC
 have hix1:-1≤ix:=by rw[←hix];exact Lib.indexByte_ge _ _
 clear hix hZ hP ha hB hE hF hI hk hrx hcz
 rcases hc with ⟨_,har,h5,hT,rfl,rfl,rfl⟩|⟨h,_⟩|⟨h1,_,rfl,rfl,rfl,rfl⟩
 ·subst h5
  have hxr:x=r:=by omega
  subst hxr
  obtain ⟨hsum,hge⟩:=htt E' hT
  rw[decide_eq_true har] at hcol
  have hEs:E'≤s.size:=by have:=hT.2.1;omega
  clear htt htn hT
  go_enter Tryz.func62,Tryz.ntmps62
  go_wp2_with (go_at_call 110;refine (CA _).mono ?_;rintro e w9 ⟨rfl,rfl⟩)
  refine (CP _).mono ?_
  rintro e w1 ⟨v,rfl,ho,hb⟩
  go_wp2_with (first|(go_at_call 112;refine (CL _).mono ?_;rintro e w9 ⟨rfl,rfl⟩)|(go_at_call 48;refine (CI _).mono ?_;rintro e w9 ⟨rfl,rfl⟩)|(go_at_call 74;refine (CC _).mono ?_;rintro e w9 ⟨rfl,rfl⟩)|(go_at_call 39;refine (CK _).mono ?_;rintro e w9 ⟨rfl,rfl⟩))
  refine bodyPost_ret (results_tmp4 rfl _ _ _) rfl ?_
  exact ⟨_,rfl,OutC.nil _ _,hb⟩
 ·cases h
 ·by_cases hge:0≤ix
  ·by_cases har:a≤r
   ·have hk5:(k==5)=false:=by
     rw[beq_eq_false_iff_ne]
     intro hk
     have hxr:x=r:=by omega
     have:=htn (by rw[hxr];exact h1 rfl har hk)
     omega
    rw[decide_eq_true har] at hcol
    clear htt htn h1
    go_enter Tryz.func62,Tryz.ntmps62
    go_wp2_with (go_at_call 110;refine (CA _).mono ?_;rintro e w9 ⟨rfl,rfl⟩)
    refine (CP _).mono ?_
    rintro e w1 ⟨v,rfl,ho,hb⟩
    go_wp2_with (first|(go_at_call 112;refine (CL _).mono ?_;rintro e w9 ⟨rfl,rfl⟩)|(go_at_call 48;refine (CI _).mono ?_;rintro e w9 ⟨rfl,rfl⟩)|(go_at_call 74;refine (CC _).mono ?_;rintro e w9 ⟨rfl,rfl⟩)|(go_at_call 39;refine (CK _).mono ?_;rintro e w9 ⟨rfl,rfl⟩))
    refine bodyPost_ret (results_tmp4 rfl _ _ _) rfl ?_
    exact ⟨_,rfl,ho,hb⟩
   ·rw[decide_eq_false har] at hcol
    clear htt htn h1
    go_enter Tryz.func62,Tryz.ntmps62
    go_wp2_with (go_at_call 110;refine (CA _).mono ?_;rintro e w9 ⟨rfl,rfl⟩)
    refine (CP _).mono ?_
    rintro e w1 ⟨v,rfl,ho,hb⟩
    go_wp2_with (first|(go_at_call 112;refine (CL _).mono ?_;rintro e w9 ⟨rfl,rfl⟩)|(go_at_call 48;refine (CI _).mono ?_;rintro e w9 ⟨rfl,rfl⟩)|(go_at_call 74;refine (CC _).mono ?_;rintro e w9 ⟨rfl,rfl⟩)|(go_at_call 39;refine (CK _).mono ?_;rintro e w9 ⟨rfl,rfl⟩))
    refine bodyPost_ret (results_tmp4 rfl _ _ _) rfl ?_
    exact ⟨_,rfl,ho,hb⟩
  ·have hgi:decide ((0:Int)≤ix)=false:=decide_eq_false hge
   clear htt htn h1
   go_enter Tryz.func62,Tryz.ntmps62
   go_wp2_with (go_at_call 110;refine (CA _).mono ?_;rintro e w9 ⟨rfl,rfl⟩)
   refine (CP _).mono ?_
   rintro e w1 ⟨v,rfl,ho,hb⟩
   go_wp2_with (first|(go_at_call 112;refine (CL _).mono ?_;rintro e w9 ⟨rfl,rfl⟩)|(go_at_call 48;refine (CI _).mono ?_;rintro e w9 ⟨rfl,rfl⟩)|(go_at_call 74;refine (CC _).mono ?_;rintro e w9 ⟨rfl,rfl⟩)|(go_at_call 39;refine (CK _).mono ?_;rintro e w9 ⟨rfl,rfl⟩))
   refine bodyPost_ret (results_tmp4 rfl _ _ _) rfl ?_
   exact ⟨_,rfl,ho,hb⟩
end Go.Proofs.YtafhgbokdfhapaaGreatDoor
namespace Go.Proofs.YtafhgbokdfhapaaGreatDoor
open Go.RowKit
set_option maxRecDepth 100000 in
theorem dec_split (s:ByteArray) (k:Nat) (h:k<s.size):(byt s k<128∧(Utf8.decode s k).1=byt s k∧(Utf8.decode s k).2=1)∨(128≤byt s k∧128≤(Utf8.decode s k).1∧∀ j,j<(Utf8.decode s k).2→128≤byt s (k+j)):=by
 have hne:=drop_ne h
 have hg:∀ j,((s.data.toList.drop k).getD j 0).toNat=byt s (k+j):=fun j=>by
  rw[byt_list];simp[List.getD]
 rw[←Lib.decodeL_drop,Lib.decodeL_N,hg 0,hg 1,hg 2,hg 3,Nat.add_zero]
 rcases Lib.decodeN_shape (s.data.toList.drop k).length (byt s k) (byt s (k+1)) (byt s (k+2)) (byt s (k+3)) with ⟨c,e⟩|⟨c1,c2,c3,cv,e⟩|⟨c1,c2,c3,c4,cv,cs,e⟩|⟨c1,c2,c3,c4,c5,cv,cw,e⟩|e
 ·exact .inl ⟨by omega,by rw[e],by rw[e]⟩
 ·rw[e]
  refine .inr ⟨by omega,by dsimp only;omega,fun j hj=>?_⟩
  dsimp only at hj
  rcases (show j=0∨j=1 by omega) with rfl|rfl
  ·rw[Nat.add_zero];omega
  ·omega
 ·rw[e]
  refine .inr ⟨by omega,by dsimp only;omega,fun j hj=>?_⟩
  dsimp only at hj
  rcases (show j=0∨j=1∨j=2 by omega) with rfl|rfl|rfl
  ·rw[Nat.add_zero];omega
  ·omega
  ·omega
 ·rw[e]
  refine .inr ⟨by omega,by dsimp only;omega,fun j hj=>?_⟩
  dsimp only at hj
  rcases (show j=0∨j=1∨j=2∨j=3 by omega) with rfl|rfl|rfl|rfl
  ·rw[Nat.add_zero];omega
  ·omega
  ·omega
  ·omega
 ·by_cases hb:byt s k<128
  ·rw[Lib.decodeN_ascii _ _ _ _ _ hb]
   exact .inl ⟨hb,rfl,rfl⟩
  ·rw[e]
   refine .inr ⟨by omega,by dsimp only;omega,fun j hj=>?_⟩
   dsimp only at hj
   obtain rfl:j=0:=by omega
   rw[Nat.add_zero];omega
theorem flow_high {b:Nat} (h:128≤b):U.flow (b:Int)=false:=by
 unfold U.flow;rw[decide_eq_false_iff_not];omega
theorem white_high {b:Nat} (h:128≤b):U.white (b:Int)=false:=by
 unfold U.white;rw[decide_eq_false_iff_not];omega
theorem white_notP {b:Nat} (h:U.white (b:Int)=true):b=32∨b=9:=by
 unfold U.white at h;rw[decide_eq_true_eq] at h;omega
theorem stop_high {s:ByteArray} {fl:Bool} {p:Nat} (h:128≤byt s p):stopB s fl p=false:=by
 unfold stopB
 rw[decide_eq_false (show ¬ byt s p=10 by omega),decide_eq_false (show ¬ byt s p=35 by omega),decide_eq_false (show ¬ byt s p=58 by omega),flow_high h]
 simp
theorem stop_white {s:ByteArray} {fl:Bool} {p:Nat} (h:U.white (byt s p:Int)=true):stopB s fl p=false:=by
 have hb:=white_notP h
 unfold stopB
 rw[decide_eq_false (show ¬ byt s p=10 by omega),decide_eq_false (show ¬ byt s p=35 by omega),decide_eq_false (show ¬ byt s p=58 by omega)]
 have:U.flow (byt s p:Int)=false:=by
  rcases hb with hb|hb
  ·rw[hb];decide
  ·rw[hb];decide
 rw[this]
 simp
inductive NxS (s:ByteArray) (n:Int):Nat→Int→Nat→Int→Prop
 | fin {m:Nat} {B:Int}:s.size≤m→NxS s n m B s.size 0
 | lf {m F:Nat} {B K:Int}:m<s.size→byt s m=10→NxS s n (m+1) (B+1) F K→NxS s n m B F K
 | wh {m F:Nat} {B K:Int}:m<s.size→U.white (byt s m:Int)=true→NxS s n (m+1) B F K→NxS s n m B F K
 | early {m:Nat} {B:Int}:m<s.size→byt s m≠10→U.white (byt s m:Int)=false→B<0→NxS s n m B s.size 0
 | no {m a b p i:Nat} {B:Int}:m<s.size→byt s m≠10→U.white (byt s m:Int)=false→0≤B→RowB s m a→RowE s m b→FirN s a b p→InN s a b i→(kindN s a b p≠5∨(i:Int)≤n)→NxS s n m B s.size 0
 | yes {m a b p i:Nat} {B:Int}:m<s.size→byt s m≠10→U.white (byt s m:Int)=false→0≤B→RowB s m a→RowE s m b→FirN s a b p→InN s a b i→kindN s a b p=5→n<(i:Int)→NxS s n m B m B
theorem NxS.ex (s:ByteArray) (n:Int):∀ (g m:Nat) (B:Int),s.size≤m+g→∃ F K,NxS s n m B F K:=by
 intro g
 induction g with
 | zero=>intro m B h;exact ⟨_,_,.fin (by omega)⟩
 | succ g ih=>
  intro m B h
  by_cases hm:m<s.size
  ·by_cases h10:byt s m=10
   ·obtain ⟨F,K,hh⟩:=ih (m+1) (B+1) (by omega)
    exact ⟨F,K,.lf hm h10 hh⟩
   ·cases hw:U.white (byt s m:Int) with
    | true=>
     obtain ⟨F,K,hh⟩:=ih (m+1) B (by omega)
     exact ⟨F,K,.wh hm hw hh⟩
    | false=>
     by_cases hB:B<0
     ·exact ⟨_,_,.early hm h10 hw hB⟩
     ·obtain ⟨a,ha⟩:=RowB.ex s m
      obtain ⟨b,hb⟩:=RowE.ex s m (by omega)
      have hab:a≤b:=by have:=ha.1;have:=hb.1;omega
      obtain ⟨p,hp⟩:=FirN.ex s a b hab
      obtain ⟨i,hi⟩:=InN.ex s a b hab
      by_cases hk:kindN s a b p≠5∨(i:Int)≤n
      ·exact ⟨_,_,.no hm h10 hw (by omega) ha hb hp hi hk⟩
      ·exact ⟨_,_,.yes hm h10 hw (by omega) ha hb hp hi (by omega) (by omega)⟩
  ·exact ⟨_,_,.fin (by omega)⟩
theorem NxS.le {s:ByteArray} {n:Int} {m F:Nat} {B K:Int} (h:NxS s n m B F K):m≤s.size→F≤s.size:=by
 induction h with
 | fin _=>intro _;exact Nat.le_refl _
 | lf h _ _ ih=>intro _;exact ih (by omega)
 | wh h _ _ ih=>intro _;exact ih (by omega)
 | early _ _ _ _=>intro _;exact Nat.le_refl _
 | no _ _ _ _ _ _ _ _ _=>intro _;exact Nat.le_refl _
 | yes h _ _ _ _ _ _ _ _ _=>intro _;omega
theorem NxS.end {s:ByteArray} {n:Int} {m F:Nat} {B K:Int} (h:NxS s n m B F K) (hm:s.size≤m):F=s.size∧K=0:=by
 cases h with
 | fin _=>exact ⟨rfl,rfl⟩
 | lf h=>omega
 | wh h=>omega
 | early h=>omega
 | no h=>omega
 | yes h=>omega
theorem white10 {b:Nat} (h:U.white (b:Int)=true):b≠10:=by have:=white_notP h;omega
theorem NxS.lf_inv {s:ByteArray} {n:Int} {m F:Nat} {B K:Int} (h:NxS s n m B F K) (hm:m<s.size) (h10:byt s m=10):NxS s n (m+1) (B+1) F K:=by
 cases h with
 | fin h=>omega
 | lf _ _ h=>exact h
 | wh _ h=>exact absurd h10 (white10 h)
 | early _ h=>exact absurd h10 h
 | no _ h=>exact absurd h10 h
 | yes _ h=>exact absurd h10 h
theorem NxS.wh_inv {s:ByteArray} {n:Int} {m F:Nat} {B K:Int} (h:NxS s n m B F K) (hm:m<s.size) (hw:U.white (byt s m:Int)=true):NxS s n (m+1) B F K:=by
 cases h with
 | fin h=>omega
 | lf _ h=>exact absurd h (white10 hw)
 | wh _ _ h=>exact h
 | early _ _ h=>rw[hw] at h;cases h
 | no _ _ h=>rw[hw] at h;cases h
 | yes _ _ h=>rw[hw] at h;cases h
theorem NxS.early_inv {s:ByteArray} {n:Int} {m F:Nat} {B K:Int} (h:NxS s n m B F K) (h10:byt s m≠10) (hw:U.white (byt s m:Int)=false) (hB:B<0):F=s.size∧K=0:=by
 cases h with
 | fin h=>exact ⟨rfl,rfl⟩
 | lf _ h=>exact absurd h h10
 | wh _ h=>rw[hw] at h;cases h
 | early _ _ h=>exact ⟨rfl,rfl⟩
 | no _ _ _ _=>omega
 | yes _ _ _ _=>omega
theorem NxS.in_inv {s:ByteArray} {n:Int} {m F a b p i:Nat} {B K:Int} (h:NxS s n m B F K) (hm:m<s.size) (h10:byt s m≠10) (hw:U.white (byt s m:Int)=false) (hB:0≤B) (ha:RowB s m a) (hb:RowE s m b) (hp:FirN s a b p) (hi:InN s a b i) :
  (kindN s a b p=5∧n<(i:Int)∧F=m∧K=B)∨((kindN s a b p≠5∨(i:Int)≤n)∧F=s.size∧K=0):=by
 cases h with
 | fin h=>omega
 | lf _ h=>exact absurd h h10
 | wh _ h=>rw[hw] at h;cases h
 | early _ _ _ h=>omega
 | no _ _ _ _ ha' hb' hp' hi' hk=>
  obtain rfl:=ha.uniq ha'
  obtain rfl:=hb.uniq hb'
  obtain rfl:=hp.uniq hp'
  obtain rfl:=hi.uniq hi'
  exact .inr ⟨hk,rfl,rfl⟩
 | yes _ _ _ _ ha' hb' hp' hi' hk hn=>
  obtain rfl:=ha.uniq ha'
  obtain rfl:=hb.uniq hb'
  obtain rfl:=hp.uniq hp'
  obtain rfl:=hi.uniq hi'
  exact .inl ⟨hk,hn,rfl,rfl⟩
theorem NxS.over {s:ByteArray} {n:Int} {F:Nat} {B K:Int}:∀ (d m:Nat),NxS s n m B F K→m+d≤s.size→(∀ j,j<m+d→m≤j→U.white (byt s j:Int)=true)→NxS s n (m+d) B F K:=by
 intro d
 induction d with
 | zero=>intro m h _ _;exact h
 | succ d ih=>
  intro m h hd hw
  have:=ih (m+1) (h.wh_inv (by omega) (hw m (by omega) (Nat.le_refl _))) (by omega) (fun j h1 h2=>hw j (by omega) (by omega))
  rwa [show m+1+d=m+(d+1) by omega] at this
theorem NxS.blank {s:ByteArray} {n:Int} {F a k c:Nat} (h:Blk s a k c):∀ {B K:Int},NxS s n a B F K→(c<s.size∧NxS s n c (B+k) F K)∨(s.size≤c∧F=s.size∧K=0):=by
 induction h with
 | over h=>intro B K hh;exact .inr ⟨h,hh.end h⟩
 | text ha _ _ _=>intro B K hh;exact .inl ⟨ha,by simpa using hh⟩
 | more ha hb hp hr ih=>
  rename_i a b k c
  intro B K hh
  have hb1:=hb.1
  have hb2:=hb.2.1
  have h1:=NxS.over (b-a) a hh (by omega) (fun j h1 h2=>hp.2.2.1 j (by omega) h2)
  rw[show a+(b-a)=b by omega] at h1
  rcases hb.2.2.2 with h2|h2
  ·obtain ⟨rfl,rfl⟩:=h1.end (by omega)
   obtain ⟨_,rfl⟩:=hr.end (by omega)
   exact .inr ⟨by omega,rfl,rfl⟩
  ·by_cases h3:b<s.size
   ·have h4:=ih (h1.lf_inv h3 h2)
    rwa [show B+1+(k:Int)=B+((k+1:Nat):Int) by omega] at h4
   ·obtain ⟨rfl,rfl⟩:=h1.end (by omega)
    obtain ⟨_,rfl⟩:=hr.end (by omega)
    exact .inr ⟨by omega,rfl,rfl⟩
theorem StpN.last {s:ByteArray} {fl:Bool} {p:Nat} (h:StpN s fl s.size p):p=s.size:=by
 have:=h.1;have:=h.2.1;omega
theorem PlaiG.step {s:ByteArray} {n:Int} {fl:Bool} {T:List UInt8} {E:Nat} {O:Bool} {C:Int} {g e:Nat} {R:List (List UInt8)} {one:Bool} (H:PlaiG s n fl T E O C (g+1) e R one) (he:e≤s.size) {F:Nat} {K:Int} (hN:NxS s n e (-1) F K) {E1:Nat} (hS:StpN s fl F E1) :
  (E1=F∧T=U.flowT R∧E=e∧O=one∧C=0) ∨
  (F<E1∧e<F∧∃ k:Nat,K=(k:Int)∧e+k<F∧((fl=false∧E1<s.size∧byt s E1=58∧T=[]∧E=E1∧O=false∧C=5) ∨
   (¬ (fl=false∧E1<s.size∧byt s E1=58)∧∃ q,BakN s F E1 q∧F<q∧PlaiG s n fl T E O C g q (R++(U.blanksL k++[pieceL s F q])) false))):=by
 obtain ⟨t,ht⟩:=RowE.ex s e he
 obtain ⟨f,hf⟩:=FirN.ex s e t ht.1
 have ht1:=ht.1
 have ht2:=ht.2.1
 have hf1:=hf.1
 have hf2:=hf.2.1
 replace H:=H t f ht hf
 have hO:=NxS.over (f-e) e hN (by omega) (fun j h1 h2=>hf.2.2.1 j (by omega) h2)
 rw[show e+(f-e)=f by omega] at hO
 have out:F=s.size→E1=F:=fun hF=>by subst hF;exact hS.last
 by_cases c1:f<t∨s.size≤t
 ·rw[if_pos c1] at H
  refine .inl ⟨out ?_,H⟩
  by_cases c2:f<t
  ·exact (hO.early_inv (ht.2.2.1 f c2 hf1) (hf.2.2.2.resolve_left (by omega)) (by omega)).1
  ·exact (hO.end (by omega)).1
 rw[if_neg c1] at H
 obtain rfl:f=t:=by omega
 have hlf:byt s f=10:=ht.2.2.2.resolve_left (by omega)
 obtain ⟨k,a,hk⟩:=Blk.ex s (s.size+1) (f+1) (by omega)
 replace H:=H k a hk
 have hka:=hk.ge
 have hbl:=NxS.blank hk (hO.lf_inv (by omega) hlf)
 by_cases c2:s.size≤a
 ·rw[if_pos c2] at H
  exact .inl ⟨out (hbl.resolve_left (by omega)).2.1,H⟩
 rw[if_neg c2] at H
 have hA:=(hbl.resolve_right (by omega)).2
 rw[show (-1:Int)+1+(k:Int)=(k:Int) by omega] at hA
 have hB:RowB s a a:=hk.begins (RowB.behindLf hlf) (by omega)
 obtain ⟨b,hb⟩:=RowE.ex s a (by omega)
 have hb1:=hb.1
 have hb2:=hb.2.1
 obtain ⟨i,hi⟩:=InN.ex s a b hb.1
 obtain ⟨p,hp⟩:=FirN.ex s a b hb.1
 have hp1:=hp.1
 have hp2:=hp.2.1
 have hpb:p≠b:=hk.stops (by omega) hb hp
 have hpw:U.white (byt s p:Int)=false:=hp.2.2.2.resolve_left hpb
 have hp10:byt s p≠10:=hb.2.2.1 p (by omega) hp1
 replace H:=H b i p hb hi hp
 have hP:=NxS.over (p-a) a hA (by omega) (fun j h1 h2=>hp.2.2.1 j (by omega) h2)
 rw[show a+(p-a)=p by omega] at hP
 have hin:=hP.in_inv (by omega) hp10 hpw (by omega) (hB.within hb hp1 hp2) (hb.within hB hp1 hp2) hp hi
 by_cases c3:kindN s a b p≠5∨(i:Int)≤n
 ·rw[if_pos c3] at H
  exact .inl ⟨out (hin.resolve_left (by omega)).2.1,H⟩
 rw[if_neg c3] at H
 obtain ⟨_,_,rfl,rfl⟩:=hin.resolve_right (by omega)
 obtain ⟨q,hq⟩:=BakN.ex s F E1 hS.1
 replace H:=H q ⟨E1,hS,hq⟩
 have hq1:=hq.1
 have hq2:=hq.2.1
 have hS1:=hS.1
 by_cases c4:q=F
 ·rw[if_pos c4] at H
  refine .inl ⟨?_,H⟩
  refine Decidable.byContradiction fun hn=>?_
  have:=hq.2.2.1 F (by omega) (by omega)
  rw[hpw] at this
  cases this
 rw[if_neg c4] at H
 have hEb:E1≤b:=by
  refine Decidable.byContradiction fun hn=>?_
  have h3:=hS.2.2.1 b (by omega) (by omega)
  have h4:=hb.2.2.2.resolve_left (by have:=hS.2.1;omega)
  unfold stopB at h3
  rw[decide_eq_true h4] at h3
  cases h3
 obtain ⟨c,hc⟩:=FirN.ex s q b (by omega)
 have hc1:=hc.1
 have hc2:=hc.2.1
 replace H:=H c hc
 refine .inr ⟨by omega,by omega,k,rfl,by omega,?_⟩
 -- the first place behind the part that is not White is where the part ends,if a ':' stands at either
 have hcE:E1≤c:=by
  refine Decidable.byContradiction fun hn=>?_
  have h1:=hq.2.2.1 c (by omega) hc1
  rcases hc.2.2.2 with h2|h2
  ·omega
  ·rw[h1] at h2;cases h2
 by_cases c5:fl=false∧c<b∧byt s c=58∧endsB s ((c:Int)+1)=true
 ·rw[if_pos c5] at H
  obtain ⟨h1,h2,h3,h4⟩:=c5
  subst h1
  have:c=E1:=by
   refine Decidable.byContradiction fun hn=>?_
   have h5:=hc.2.2.1 E1 (by omega) (by omega)
   rcases hS.2.2.2 with h6|h6
   ·omega
   ·rw[stop_white h5] at h6;cases h6
  subst this
  obtain ⟨rfl,rfl,rfl,rfl⟩:=H
  exact .inl ⟨rfl,by omega,h3,rfl,rfl,rfl,rfl⟩
 ·rw[if_neg c5] at H
  refine .inr ⟨fun ⟨h1,h2,h3⟩=>c5 ?_,q,hq,by omega,H⟩
  subst h1
  have h6:=hS.2.2.2.resolve_left (by omega)
  have hce:c=E1:=by
   refine Decidable.byContradiction fun hn=>?_
   have h7:=hc.2.2.1 E1 (by omega) (by omega)
   rw[stop_white h7] at h6
   cases h6
  subst hce
  unfold stopB at h6
  rw[h3] at h6
  simp at h6
  refine ⟨rfl,?_,h3,h6⟩
  refine Decidable.byContradiction fun hn=>?_
  obtain rfl:c=b:=by omega
  have h8:=hb.2.2.2.resolve_left (by omega)
  omega
end Go.Proofs.YtafhgbokdfhapaaGreatDoor

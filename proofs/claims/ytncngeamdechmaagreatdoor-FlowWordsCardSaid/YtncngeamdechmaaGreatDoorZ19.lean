/- Parts of the proof, put together from smaller texts (blanks that Lean does not want are struck). Conditions: those that each theorem writes out. -/
import Derived.Deep.DrawnRows
import Derived.KernelRfl
import Derived.OwnWalk
import Derived.Test.YtncngeamdechmaaGreatDoorZ00
import Derived.Test.YtncngeamdechmaaGreatDoorZ02
import Derived.Test.YtncngeamdechmaaGreatDoorZ05
import Derived.Test.YtncngeamdechmaaGreatDoorZ08
import Derived.Test.YtncngeamdechmaaGreatDoorZ16
import Derived.Test.YtncngeamdechmaaGreatDoorZ17
import Derived.Test.YtncngeamdechmaaGreatDoorZ18
namespace Go.Proofs.YtncngeamdechmaaGreatDoor
open Go.RowKit
theorem Valid_is (b:Bool) (r:Int) (w:World) (h:U.scalar r=b) :
  Calls Tryz.prog 122 #[.int .i32 r] w fun e w'=>e=.returned (.bool b)∧w=w':=by
 subst h
 refine (Tryz.utf8_ValidRune r w).mono ?_
 rintro e w' ⟨rfl,rfl⟩
 exact ⟨rfl,rfl⟩
theorem IndexByte_is (i:Int) (s:ByteArray) (c:Int) (w:World) (h:Lib.indexByte s.data.toList c.toNat.toUInt8=i) :
  Calls Tryz.prog 81 #[.string s,.int .u8 c] w fun e w'=>e=.returned (.int .i64 i)∧w=w':=by
 subst h
 refine (Tryz.strings_IndexByte s c w).mono ?_
 rintro e w' ⟨rfl,rfl⟩
 exact ⟨rfl,rfl⟩
theorem ParseUint_some (a:Int) (v:Nat) (hav:a=(v:Int)) (t:ByteArray) (hne:t.size≠0) (hmax:t.size≤8) (ho:U.hexs 0 t.data.toList=some v) (w:World) :
  Calls Tryz.prog 123 #[.string t,.int .i64 16,.int .i64 32] w fun e w'=>e=.returned (.tuple #[.int .u64 a,.nilIface])∧Below w.heap.size w w':=by
 have HO:=Lib.hid ho
 have HA:=Lib.hid hav
 clear ho hav
 go_enter Tryz.func123,Tryz.ntmps123
 go_wp2_with fail
 refine (ParseUintI (some v) t hne hmax HO.out w).mono ?_
 rintro e w1 ⟨rfl,b1⟩
 unfold puT
 dsimp only
 rw[←HA.out]
 go_wp2
 go_ret2
 exact ⟨rfl,b1⟩
theorem ParseUint_none (t:ByteArray) (hne:t.size≠0) (hmax:t.size≤8) (ho:U.hexs 0 t.data.toList=none) (w:World) (hE:Env w) :
  Calls Tryz.prog 123 #[.string t,.int .i64 16,.int .i64 32] w fun e w'=>∃ N,e=.returned (.tuple #[.int .u64 0,.iface 154 (.pointer (some ⟨N,0,none⟩))])∧Below w.heap.size w w':=by
 have HO:=Lib.hid ho
 clear ho
 go_enter Tryz.func123,Tryz.ntmps123
 go_wp2_with fail
 refine (ParseUintI none t hne hmax HO.out w).mono ?_
 rintro e w1 ⟨rfl,b1⟩
 unfold puT
 dsimp only
 obtain ⟨ev,hev,hor⟩:=(hE.below b1).syn
 go_wp2_with fail
 refine (Tryz.strconv_toError_syntax _ t _ _ ev w1 (by omega) hev hor).mono ?_
 rintro e w2 ⟨N,rfl,h1,_,b2⟩
 go_wp2
 go_ret2
 exact ⟨N,rfl,b1.trans (b2.mono b1.size)⟩
def namAns (o:Option Nat) (r:Int) (b:Bool):Prop:=match o with
 | some v=>r=(v:Int)∧b=true
 | none=>b=false
theorem nm_cases (c:Nat) (hc:c<256):(c=48∨c=97∨c=98∨c=116∨c=110∨c=118∨c=102∨c=114∨c=101∨c=34∨c=92∨c=9∨c=32∨c=47∨c=78∨c=95∨c=76∨c=80) ∨
  (U.nm c=none∧Lib.indexByte [48,97,98,116,110,118,102,114,101,34,92] ((c:Int).toNat.toUInt8)=-1∧((c:Int)==9)=false∧((c:Int)==32)=false∧((c:Int)==47)=false∧((c:Int)==78)=false∧((c:Int)==95)=false∧((c:Int)==76)=false∧((c:Int)==80)=false):=by
 have H:∀ x:Fin 256,(x.val=48∨x.val=97∨x.val=98∨x.val=116∨x.val=110∨x.val=118∨x.val=102∨x.val=114∨x.val=101∨x.val=34∨x.val=92∨x.val=9∨x.val=32∨x.val=47∨x.val=78∨x.val=95∨x.val=76∨x.val=80) ∨
  (U.nm x.val=none∧Lib.indexByte [48,97,98,116,110,118,102,114,101,34,92] (((x.val:Nat):Int).toNat.toUInt8)=-1∧(((x.val:Nat):Int)==9)=false∧(((x.val:Nat):Int)==32)=false∧(((x.val:Nat):Int)==47)=false∧(((x.val:Nat):Int)==78)=false∧(((x.val:Nat):Int)==95)=false∧(((x.val:Nat):Int)==76)=false∧(((x.val:Nat):Int)==80)=false):=by decide +kernel
 exact H ⟨c,hc⟩
set_option maxRecDepth 100000 in
set_option maxHeartbeats 4000000 in
theorem named_is (o:Option Nat) (c:Nat) (hc:c<256) (h:U.nm c=o) (w:World) :
  Calls Tryz.prog 119 #[.int .u8 (c:Int)] w fun e w'=>∃ r b,e=.returned (.tuple #[.int .i32 r,.bool b])∧w=w'∧namAns o r b:=by
 subst h
 rcases nm_cases c hc with (rfl|rfl|rfl|rfl|rfl|rfl|rfl|rfl|rfl|rfl|rfl|rfl|rfl|rfl|rfl|rfl|rfl|rfl)|⟨hn,hi,h1,h2,h3,h4,h5,h6,h7⟩
 case inr=>
  rw[hn]
  have HI:=Lib.hid hi
  clear hi hn
  go_enter Tryz.func119,Tryz.ntmps119
  go_wp2_with (go_at_call 81;refine (IndexByte_is (-1) _ _ _ HI.out).mono ?_;rintro e w' ⟨rfl,rfl⟩)
  go_ret2
  exact ⟨_,_,rfl,rfl,rfl⟩
 all_goals
  go_enter Tryz.func119,Tryz.ntmps119
  go_wp2_with (go_at_call 81;(first|(refine (IndexByte_is 0 _ _ _ (by decide)).mono ?_)|(refine (IndexByte_is 1 _ _ _ (by decide)).mono ?_)|(refine (IndexByte_is 2 _ _ _ (by decide)).mono ?_)|(refine (IndexByte_is 3 _ _ _ (by decide)).mono ?_)|(refine (IndexByte_is 4 _ _ _ (by decide)).mono ?_)|(refine (IndexByte_is 5 _ _ _ (by decide)).mono ?_)|(refine (IndexByte_is 6 _ _ _ (by decide)).mono ?_)|(refine (IndexByte_is 7 _ _ _ (by decide)).mono ?_)|(refine (IndexByte_is 8 _ _ _ (by decide)).mono ?_)|(refine (IndexByte_is 9 _ _ _ (by decide)).mono ?_)|(refine (IndexByte_is 10 _ _ _ (by decide)).mono ?_)|(refine (IndexByte_is (-1) _ _ _ (by decide)).mono ?_));rintro e w' ⟨rfl,rfl⟩)
  go_ret2
  refine ⟨_,_,rfl,rfl,?_,rfl⟩
  first|rfl|decide|decide +kernel
def numAns (n:Nat) (o:Option Nat) (r k:Int) (b:Bool):Prop:=match o with
 | some v=>r=(v:Int)∧k=(n:Int)+1∧b=true
 | none=>b=false
theorem num_short {n:Nat} {l:List UInt8} (h:¬ n≤l.length):U.num n l=none:=by unfold U.num;rw[if_neg h]
theorem num_none {n:Nat} {l:List UInt8} (h:U.hexs 0 (l.take n)=none):U.num n l=none:=by
 unfold U.num
 rw[h]
 split <;> rfl
theorem num_some {n v:Nat} {l:List UInt8} (hl:n≤l.length) (h:U.hexs 0 (l.take n)=some v):U.num n l=if U.scalar (v:Int)=true then some v else none:=by
 unfold U.num
 rw[if_pos hl,h]
set_option maxRecDepth 100000 in
set_option maxHeartbeats 4000000 in
theorem number_is (o:Option Nat) (n:Nat) (hn1:1≤n) (hn8:n≤8) (s:ByteArray) (hs1:1≤s.size) (hs:s.size≤1099511627776) (h:U.num n (s.data.toList.drop 1)=o) (w:World) (hE:Env w) :
  Calls Tryz.prog 118 #[.string s,.int .i64 (n:Int)] w fun e w'=>∃ r k b,e=.returned (.tuple #[.int .i32 r,.int .i64 k,.bool b])∧Below w.heap.size w w'∧numAns n o r k b:=by
 have hlen:(s.data.toList.drop 1).length=s.size-1:=by rw[List.length_drop,←Lib.size_eq]
 obtain ⟨K,hK⟩:∃ K,K=n+1:=⟨_,rfl⟩
 have e1:1+(n:Int)=(K:Int):=by omega
 by_cases hl:K≤s.size
 ·have ht:(s.extract 1 K).data.toList=(s.data.toList.drop 1).take n:=by rw[Lib.extract_data,hK,Nat.add_sub_cancel]
  have hts:(s.extract 1 K).size=n:=by rw[ByteArray.size_extract];omega
  have hK1:1≤K:=by omega
  cases hx:U.hexs 0 ((s.data.toList.drop 1).take n) with
  | none=>
   rw[num_none hx] at h
   rw[←ht] at hx
   have HX:=Lib.hid hx
   have HT:=Lib.hid hts
   have HO:=Lib.hid h
   have HK:=Lib.hid hK
   clear hx hts h hK ht hlen
   go_enter Tryz.func118,Tryz.ntmps118
   go_wp2_with fail
   refine (ParseUint_none (s.extract 1 K) (by rw[HT.out];omega) (by rw[HT.out];exact hn8) HX.out w hE).mono ?_
   rintro e w1 ⟨N,rfl,b1⟩
   go_wp2
   go_ret3
   exact ⟨_,_,_,rfl,b1,by rw[←HO.out];rfl⟩
  | some u=>
   rw[num_some (by omega) hx] at h
   have hr:=U.hexs_range _ _ _ hx
   have hp:16 ^ ((s.data.toList.drop 1).take n).length≤16 ^ 8:=Nat.pow_le_pow_right (by omega) (by rw[List.length_take];omega)
   obtain ⟨a,hav⟩:∃ a:Int,a=(u:Int):=⟨_,rfl⟩
   rw[←hav] at h
   have a0:0≤a:=by omega
   have a1:a≤4294967295:=by omega
   rw[←ht] at hx
   have HX:=Lib.hid hx
   have HT:=Lib.hid hts
   have HK:=Lib.hid hK
   have HAV:=Lib.hid hav
   clear hx hts hK ht hlen hr hp hav
   by_cases hu2:a<2147483648
   ·cases hsc:U.scalar a with
    | true=>
     rw[if_pos hsc] at h
     have HO:=Lib.hid h
     have HS:=Lib.hid hsc
     clear h hsc a1
     go_enter Tryz.func118,Tryz.ntmps118
     go_wp2_with fail
     refine (ParseUint_some a u HAV.out (s.extract 1 K) (by rw[HT.out];omega) (by rw[HT.out];exact hn8) HX.out w).mono ?_
     rintro e w1 ⟨rfl,b1⟩
     go_wp2_with (go_at_call 122;refine (Valid_is true _ _ HS.out).mono ?_;rintro e w' ⟨rfl,rfl⟩)
     go_ret3
     exact ⟨_,_,_,rfl,b1,by rw[←HO.out];exact ⟨HAV.out,by have:=HK.out;omega,rfl⟩⟩
    | false=>
     rw[if_neg (by rw[hsc];simp)] at h
     have HO:=Lib.hid h
     have HS:=Lib.hid hsc
     clear h hsc a1
     go_enter Tryz.func118,Tryz.ntmps118
     go_wp2_with fail
     refine (ParseUint_some a u HAV.out (s.extract 1 K) (by rw[HT.out];omega) (by rw[HT.out];exact hn8) HX.out w).mono ?_
     rintro e w1 ⟨rfl,b1⟩
     go_wp2_with (go_at_call 122;refine (Valid_is false _ _ HS.out).mono ?_;rintro e w' ⟨rfl,rfl⟩)
     go_ret3
     exact ⟨_,_,_,rfl,b1,by rw[←HO.out];rfl⟩
   ·have hsc:U.scalar a=false:=by unfold U.scalar;rw[decide_eq_false_iff_not];omega
    rw[if_neg (by rw[hsc];simp)] at h
    obtain ⟨z,hz⟩:∃ z,z=a-4294967296:=⟨_,rfl⟩
    have hsz:U.scalar z=false:=by unfold U.scalar;rw[decide_eq_false_iff_not];omega
    have hw2:wrap32 a=z:=by unfold wrap32;omega
    have hw3:IntKind.i32.wrap a=z:=by rw[IntKind.wrap_i32];omega
    have HO:=Lib.hid h
    have HS:=Lib.hid hsz
    clear h hsc hsz hz
    go_enter Tryz.func118,Tryz.ntmps118
    go_wp2_with fail
    refine (ParseUint_some a u HAV.out (s.extract 1 K) (by rw[HT.out];omega) (by rw[HT.out];exact hn8) HX.out w).mono ?_
    rintro e w1 ⟨rfl,b1⟩
    go_wp2_with (go_at_call 122;refine (Valid_is false _ _ HS.out).mono ?_;rintro e w' ⟨rfl,rfl⟩)
    go_ret3
    exact ⟨_,_,_,rfl,b1,by rw[←HO.out];rfl⟩
 ·rw[num_short (by omega)] at h
  have HO:=Lib.hid h
  have HK:=Lib.hid hK
  clear h hK hlen
  go_enter Tryz.func118,Tryz.ntmps118
  go_wp2
  go_ret3
  exact ⟨_,_,_,rfl,Below.refl _ _,by rw[←HO.out];rfl⟩
theorem number_at (z:Int) (o:Option Nat) (n:Nat) (hz:z=(n:Int)) (hn1:1≤n) (hn8:n≤8) (s:ByteArray) (hs1:1≤s.size) (hs:s.size≤1099511627776) (h:U.num n (s.data.toList.drop 1)=o) (w:World) (hE:Env w) :
  Calls Tryz.prog 118 #[.string s,.int .i64 z] w fun e w'=>∃ r k b,e=.returned (.tuple #[.int .i32 r,.int .i64 k,.bool b])∧Below w.heap.size w w'∧numAns n o r k b:=by
 subst hz
 exact number_is o n hn1 hn8 s hs1 hs h w hE
theorem dropE (s:ByteArray) (k:Nat) (h:k<s.size):∃ b:UInt8,s.data.toList.drop k=b :: s.data.toList.drop (k+1)∧b.toNat=byt s k:=by
 have hl:k<s.data.toList.length:=by rw[←Lib.size_eq];exact h
 refine ⟨_,List.drop_eq_getElem_cons hl,?_⟩
 have e:s.get! k=s[k]'h:=by
  simp[ByteArray.get!,getElem!_pos,h]
  rfl
 unfold byt
 rw[e]
 simp[ByteArray.getElem_eq_getElem_data]
def folAns (o:Option (Nat × Nat)) (r k:Int) (b:Bool):Prop:=match o with
 | some p=>r=(p.1:Int)∧k=(p.2:Int)∧b=true
 | none=>b=false
theorem folAns_num {n:Nat} {o:Option Nat} {r k:Int} {b:Bool} (h:numAns n o r k b):folAns (o.map fun v=>(v,n+1)) r k b:=by
 cases o with
 | none=>exact h
 | some v=>exact ⟨h.1,by have:=h.2.1;simp;omega,h.2.2⟩
theorem folAns_nam {o:Option Nat} {r:Int} {b:Bool} (h:namAns o r b):folAns (o.map fun v=>(v,1)) r 1 b:=by
 cases o with
 | none=>exact h
 | some v=>exact ⟨h.1,rfl,h.2⟩
set_option maxRecDepth 100000 in
set_option maxHeartbeats 4000000 in
theorem follow_is (o:Option (Nat × Nat)) (s:ByteArray) (hs1:1≤s.size) (hs:s.size≤1099511627776) (h:U.fol s.data.toList=o) (w:World) (hE:Env w) :
  Calls Tryz.prog 108 #[.string s] w fun e w'=>∃ r k b,e=.returned (.tuple #[.int .i32 r,.int .i64 k,.bool b])∧Below w.heap.size w w'∧folAns o r k b:=by
 obtain ⟨b,hd,hb⟩:=dropE s 0 hs1
 have hi0:=run_byt s 0 hs1 0 rfl
 rw[List.drop_zero,Nat.zero_add] at hd
 rw[hd,U.fol_cons,hb] at h
 have hc256:byt s 0<256:=byt_lt s 0
 obtain ⟨c,hc⟩:∃ c,c=byt s 0:=⟨_,rfl⟩
 rw[←hc] at hi0 h hc256
 clear hc hd hb b
 have HO:=Lib.hid h
 clear h
 by_cases h1:c=120
 ·subst h1
  go_enter Tryz.func108,Tryz.ntmps108
  go_wp2_with (go_at_call 118;refine (number_at _ _ 2 rfl (by decide) (by decide) s hs1 hs rfl w hE).mono ?_;rintro e w1 ⟨r,k,b,rfl,b1,hA⟩;replace hA:=Lib.hid hA)
  go_ret3
  exact ⟨_,_,_,rfl,b1,by rw[←HO.out];exact folAns_num hA.out⟩
 ·by_cases h2:c=117
  ·subst h2
   go_enter Tryz.func108,Tryz.ntmps108
   go_wp2_with (go_at_call 118;refine (number_at _ _ 4 rfl (by decide) (by decide) s hs1 hs rfl w hE).mono ?_;rintro e w1 ⟨r,k,b,rfl,b1,hA⟩;replace hA:=Lib.hid hA)
   go_ret3
   exact ⟨_,_,_,rfl,b1,by rw[←HO.out];exact folAns_num hA.out⟩
  ·by_cases h3:c=85
   ·subst h3
    go_enter Tryz.func108,Tryz.ntmps108
    go_wp2_with (go_at_call 118;refine (number_at _ _ 8 rfl (by decide) (by decide) s hs1 hs rfl w hE).mono ?_;rintro e w1 ⟨r,k,b,rfl,b1,hA⟩;replace hA:=Lib.hid hA)
    go_ret3
    exact ⟨_,_,_,rfl,b1,by rw[←HO.out];exact folAns_num hA.out⟩
   ·have hdg:U.digs c=0:=by unfold U.digs;rw[if_neg h1,if_neg h2,if_neg h3]
    have HO2:Hid ((U.nm c).map (fun v=>(v,1))=o):=by
     have:=HO.out
     rw[if_pos hdg] at this
     exact this
    have g1:(((c:Nat):Int)==120)=false:=by simp;omega
    have g2:(((c:Nat):Int)==117)=false:=by simp;omega
    have g3:(((c:Nat):Int)==85)=false:=by simp;omega
    clear h1 h2 h3 hdg HO
    go_enter Tryz.func108,Tryz.ntmps108
    go_wp2_with (go_at_call 119;refine (named_is _ c hc256 rfl w).mono ?_;rintro e w1 ⟨r,b,rfl,rfl,hA⟩;replace hA:=Lib.hid hA)
    go_ret3
    exact ⟨_,_,_,rfl,Below.refl _ _,by rw[←HO2.out];exact folAns_nam hA.out⟩
def escAt (s:ByteArray) (at':Int):Int × Int × Int:=
 if at'<0 then (0,at',5) else match U.esc (s.data.toList.drop at'.toNat) with
  | some p=>((p.1:Int),at'+(p.2:Int),0)
  | none=>(0,at',5)
theorem escAt_neg (s:ByteArray) (at':Int) (h:at'<0):escAt s at'=(0,at',5):=by unfold escAt;rw[if_pos h]
theorem escAt_none (s:ByteArray) (k:Nat) (h:U.esc (s.data.toList.drop k)=none):escAt s (k:Int)=(0,(k:Int),5):=by
 unfold escAt
 rw[if_neg (by omega),Int.toNat_natCast,h]
theorem escAt_some (s:ByteArray) (k:Nat) (p:Nat × Nat) (h:U.esc (s.data.toList.drop k)=some p):escAt s (k:Int)=((p.1:Int),(k:Int)+(p.2:Int),0):=by
 unfold escAt
 rw[if_neg (by omega),Int.toNat_natCast,h]
theorem escAt_over (s:ByteArray) (k:Nat) (h:s.size≤k+1):escAt s (k:Int)=(0,(k:Int),5):=by
 apply escAt_none
 cases he:U.esc (s.data.toList.drop k) with
 | none=>rfl
 | some p=>
  have:=U.esc_len (l:=s.data.toList.drop k) (v:=p.1) (k:=p.2) he
  rw[List.length_drop,←Lib.size_eq] at this
  omega
set_option maxRecDepth 100000 in
set_option maxHeartbeats 4000000 in
theorem Read_is (r p e':Int) (s:ByteArray) (at':Int) (hs:s.size≤1099511627776) (h:escAt s at'=(r,p,e')) (w:World) (hE:Env w) :
  Calls Tryz.prog 94 #[.string s,.int .i64 at'] w fun e w'=>e=.returned (.tuple #[.int .i32 r,.int .i64 p,.int .i64 e'])∧Below w.heap.size w w':=by
 by_cases hneg:at'<0
 ·rw[escAt_neg s at' hneg,Prod.mk.injEq,Prod.mk.injEq] at h
  obtain ⟨rfl,rfl,rfl⟩:=h
  go_enter Tryz.func94,Tryz.ntmps94
  go_wp2
  go_ret3
  exact ⟨rfl,Below.refl _ _⟩
 ·obtain ⟨k,rfl⟩:∃ k:Nat,at'=(k:Int):=⟨at'.toNat,by omega⟩
  clear hneg
  by_cases hk:s.size≤k+1
  ·rw[escAt_over s k hk,Prod.mk.injEq,Prod.mk.injEq] at h
   obtain ⟨rfl,rfl,rfl⟩:=h
   go_enter Tryz.func94,Tryz.ntmps94
   go_wp2
   go_ret3
   exact ⟨rfl,Below.refl _ _⟩
  ·obtain ⟨b,hd,hb⟩:=dropE s k (by omega)
   have hik:=run_byt s k (by omega) (k:Int) rfl
   obtain ⟨c,hc⟩:∃ c,c=byt s k:=⟨_,rfl⟩
   rw[←hc] at hik hb
   clear hc
   by_cases h92:c=92
   ·obtain ⟨K,hK⟩:∃ K,K=k+1:=⟨_,rfl⟩
    have e1:(k:Int)+1=(K:Int):=by omega
    have hKs:K<s.size:=by omega
    have hx:(s.extract K s.size).data.toList=s.data.toList.drop K:=by
     rw[Lib.extract_data,List.take_of_length_le]
     rw[List.length_drop,Lib.size_eq];exact Nat.le_refl _
    have hxs:(s.extract K s.size).size=s.size-K:=by rw[ByteArray.size_extract];omega
    have HE:Hid (U.esc (s.data.toList.drop k)=(U.fol (s.extract K s.size).data.toList).map (fun p=>(p.1,p.2+1))):=by
     show _=_
     rw[hd,U.esc_cons,if_pos (by omega),←hK,hx]
    have HX:=Lib.hid hxs
    have HK:=Lib.hid hK
    have H:=Lib.hid h
    have hk2:¬ ((s.size:Int)-1≤(k:Int)):=by omega
    have hk3:(k:Int)<(s.size:Int)-1:=by omega
    clear hx hxs hK h hd hb hk
    subst h92
    cases hf:U.fol (s.extract K s.size).data.toList with
    | some q=>
     have hes:=HE.out
     rw[hf] at hes
     have h2:=H.out
     rw[escAt_some s k _ hes,Prod.mk.injEq,Prod.mk.injEq] at h2
     obtain ⟨q1,q2⟩:=q
     have hln:=U.esc_len hes
     obtain ⟨h3,h4,h5⟩:=h2
     have hq2:(q2:Int)≤9:=by omega
     have R1:=Lib.hid h3
     have R2:=Lib.hid h4
     have R3:=Lib.hid h5
     have HF:=Lib.hid hf
     clear hf hes h3 h4 h5 hln
     go_enter Tryz.func94,Tryz.ntmps94
     go_wp2_with fail
     refine (follow_is _ (s.extract K s.size) (by rw[HX.out];omega) (by rw[HX.out];omega) HF.out w hE).mono ?_
     rintro e w1 ⟨rr,kk,bb,rfl,b1,hA,hB,rfl⟩
     dsimp only at hA hB
     subst hA hB
     go_wp2
     go_ret3
     refine ⟨?_,b1⟩
     rw[←R1.out,←R2.out,←R3.out]
     have:=HK.out
     go_num
    | none=>
     have hes:=HE.out
     rw[hf] at hes
     have h2:=H.out
     rw[escAt_none s k hes,Prod.mk.injEq,Prod.mk.injEq] at h2
     obtain ⟨rfl,rfl,rfl⟩:=h2
     have HF:=Lib.hid hf
     clear hf hes
     go_enter Tryz.func94,Tryz.ntmps94
     go_wp2_with fail
     refine (follow_is _ (s.extract K s.size) (by rw[HX.out];omega) (by rw[HX.out];omega) HF.out w hE).mono ?_
     rintro e w1 ⟨rr,kk,bb,rfl,b1,hA⟩
     obtain rfl:bb=false:=hA
     go_wp2
     go_ret3
     exact ⟨rfl,b1⟩
   ·rw[escAt_none s k (by rw[hd,U.esc_cons,if_neg (by omega)]),Prod.mk.injEq,Prod.mk.injEq] at h
    obtain ⟨rfl,rfl,rfl⟩:=h
    have g1:(((c:Nat):Int) != 92)=true:=by simp;omega
    clear hd hb h92
    go_enter Tryz.func94,Tryz.ntmps94
    go_wp2
    go_ret3
    exact ⟨rfl,Below.refl _ _⟩
end Go.Proofs.YtncngeamdechmaaGreatDoor
namespace Go.Proofs.YtncngeamdechmaaGreatDoor
open Go.RowKit
attribute [local go_sem ↓] Go.wp_at_zero Go.wp_at_succ
def RowA (s:ByteArray) (q:Nat) (n:Int) (T:List UInt8) (E:Nat) (O:Bool) (C:Int) (R:List (List UInt8 × Bool)) (fr:Nat) (x:List UInt8) (te:Nat) (by' c:Int):Prop:=
 (c=5∧by'=0∧x=[]∧T=[]∧E=te∧O=false∧C=5) ∨
 (c=0∧x.length+1≤2*(te-fr)∧fr<te∧te≤s.size ∧
  ((by'=(q:Int)∧T=qT (R++[(x,false)])∧E=te∧O=R.isEmpty∧C=0) ∨
   (by'=10∧byt s (te-1)=10∧QZ s q n T E O C te true (R++[(x,false)]) [] []) ∨
   (by'=92∧byt s (te-1)=10∧QZ s q n T E O C te true (R++[(x,true)]) [] [])))
def RowL (s:ByteArray) (q:Nat) (n:Int) (T:List UInt8) (E:Nat) (O:Bool) (C:Int) (R:List (List UInt8 × Bool)) (p kept:Nat) (out:List UInt8):Prop:=
 (kept≤p∧∃ t w,RowS s kept p out t w∧QZ s q n T E O C p false R t w)∨(p<kept∧(∀ j,j<kept→p≤j→byt s j<128)∧QZ s q n T E O C kept false R out [])
theorem mk_append (a b:List UInt8):(⟨(a++b).toArray⟩:ByteArray)=⟨a.toArray⟩++⟨b.toArray⟩:=by rw[ByteArray.mk_append_mk]
theorem wrapQ (x:Int) (h0:0≤x) (h1:x≤4398046511104):IntKind.i64.wrap x=x:=by
 simp[IntKind.wrap,IntKind.bits,IntKind.signed]
 omega
theorem pre1 (s:ByteArray) (p:Nat) (ch:UInt8) (hp:p≤s.size):Lib.hasPrefix (s.extract p s.size).data.toList [ch]=decide (p<s.size∧byt s p=ch.toNat):=by
 have hx:(s.extract p s.size).data.toList=s.data.toList.drop p:=by
  rw[Lib.extract_data,List.take_of_length_le]
  rw[List.length_drop,Lib.size_eq];exact Nat.le_refl _
 rw[hx]
 by_cases h:p<s.size
 ·obtain ⟨b,hd,hb⟩:=drop_byte s p h
  rw[hd,Bool.eq_iff_iff]
  simp[Lib.hasPrefix,h,←hb,UInt8.toNat_inj]
  exact eq_comm
 ·rw[List.drop_eq_nil_of_le (by rw[←Lib.size_eq];omega)]
  simp[Lib.hasPrefix,h]
theorem quotPre (v:Bool) (s:ByteArray) (p:Nat) (m:ByteArray) (ch:UInt8) (w:World) (hp:p≤s.size) (hm:m=⟨#[ch]⟩) (h:decide (p<s.size∧byt s p=ch.toNat)=v) :
  Calls Tryz.prog 73 #[.string (s.extract p s.size),.string m] w fun e w'=>e=.returned (.bool v)∧w=w':=by
 subst hm
 refine (Tryz.strings_HasPrefix (s.extract p s.size) ⟨#[ch]⟩ w).mono ?_
 rintro e w' ⟨rfl,rfl⟩
 refine ⟨?_,rfl⟩
 rw[←h,←pre1 s p ch hp]
end Go.Proofs.YtncngeamdechmaaGreatDoor
namespace Go.Proofs.YtncngeamdechmaaGreatDoor
open Go.RowKit
attribute [local go_sem ↓] Go.wp_at_zero Go.wp_at_succ
theorem appendOneG {ops:Array Oper} {rest:List Oper} {o:Oper} {a:Act} {Q:Exit→Act→World→Prop} (w0:World) (y:List UInt8) (hgd:o.guard=none) (s x:Operand)
  (ho:o.op=.call { callee:=.builtin .append,args:=#[s,x],argTypes:=#[24,24] })
  (B:Nat) (v:Value) (xs:List (List UInt8)) (hs:a.eval s=v) (hx:a.eval x=.slice (some ⟨w0.heap.size,0,none⟩) 1 1) (hv:OutT B w0 v xs) (hn:xs.length≤1000000000) (hB:B≤w0.heap.size) (m:Nat) (hm:xs.length+1=m)
  (h:∀ g cap w',OutT B w' (.slice (some ⟨g,0,none⟩) m cap) (xs++[y])→(w0.alloc (.cells #[.string ⟨y.toArray⟩] 9)).grownBy w' v.ownBlock→(v.ownBlock=some g∨g=(w0.alloc (.cells #[.string ⟨y.toArray⟩] 9)).heap.size)→wpList Tryz.prog ops Q rest (a.put o.dst (.slice (some ⟨g,0,none⟩) m cap)) w'):wpList Tryz.prog ops Q (o :: rest) a (w0.alloc (.cells #[.string ⟨y.toArray⟩] 9)):=by
 subst hm
 obtain ⟨i0,hi,hz0,hz1,hz2⟩:=info_parts infoS
 have hv2:OutT B (w0.alloc (.cells #[.string ⟨y.toArray⟩] 9)) v xs:=hv.below ((Below.refl _ _).alloc (Nat.le_refl _) _)
 refine wpList_append_lies _ hgd s x 24 ho B 9 i0 (.string ByteArray.empty) 1 16 Tryz.underlying24 hi hz0 hz1 hz2 rfl (by decide) v xs.length (txts xs) hs hv2 ⟨w0.heap.size,0,none⟩ 1 1 [.string ⟨y.toArray⟩] hx rfl (World.news_of_block (heap_alloc_new w0 _)) (by intro u hu;simp at hu;subst hu;rfl) (by decide) (by unfold maxLen;omega) (by omega) (by simp;omega) _ rfl ?_
 intro g cap w' h1 h2 h3 _
 refine h g cap w' ?_ h2 h3
 unfold OutT
 rw[List.length_append,txts_append]
 exact h1
theorem appendNone {ops:Array Oper} {rest:List Oper} {o:Oper} {a:Act} {Q:Exit→Act→World→Prop} (w0:World) (hgd:o.guard=none) (s x:Operand)
  (ho:o.op=.call { callee:=.builtin .append,args:=#[s,x],argTypes:=#[92,92] })
  (B:Nat) (g cp:Nat) (cl:List (List (List UInt8))) (op:List (List UInt8)) (cs:List Value) (c:Value) (hs:a.eval s=.slice (some ⟨g,0,none⟩) (cl.length+1) cp) (H:Nat) (hx:a.eval x=.slice (some ⟨H,0,none⟩) 1 1) (hH:w0.heap.size=H) (hv:OutG B w0 (.slice (some ⟨g,0,none⟩) (cl.length+1) cp) cl op cs c) (hn:cl.length≤1000000000) (hB:B≤w0.heap.size)
  (h:∀ v' w',OutG B w' v' (cl++[op]) [] (cs++[c]) (.slice none 0 0)→(∀ w,Below B w w0→Below B w w')→B≤w'.heap.size→wpList Tryz.prog ops Q rest (a.put o.dst v') w'):wpList Tryz.prog ops Q (o :: rest) a (w0.alloc (.cells #[.slice none 0 0] 24)):=by
 subst hH
 obtain ⟨i0,hi,hz0,hz1,hz2⟩:=info_parts infoG
 have hb:Below w0.heap.size w0 (w0.alloc (.cells #[.slice none 0 0] 24)):=(Below.refl _ _).alloc (Nat.le_refl _) _
 have hv2:=hv.below hb
 refine wpList_append_lies _ hgd s x 92 ho B 24 i0 (.slice none 0 0) 1 24 Tryz.underlying92 hi hz0 hz1 hz2 rfl (by decide) (.slice (some ⟨g,0,none⟩) (cl.length+1) cp) (cl.length+1) (cs++[c]) hs hv2.own ⟨w0.heap.size,0,none⟩ 1 1 [.slice none 0 0] hx rfl (World.news_of_block (heap_alloc_new w0 _)) (by intro u hu;simp at hu;subst hu;rfl) (by decide) (by unfold maxLen;omega) (by omega) (by simp;omega) _ rfl ?_
 intro g2 cap w' h1 h2 _ _
 have hgB:B≤g:=(hv.own.lt g rfl).1
 have hsz:B≤(w0.alloc (.cells #[.slice none 0 0] 24)).heap.size:=Nat.le_trans hB hb.size
 exact h _ w' (hv.next hb h2 h1) (fun w hw=>(hw.alloc hB _).grown h2 hsz (fun k hk=>(hv.own.lt k hk).1)) (Nat.le_trans hsz h2.size)
theorem OutG.after {B:Nat} {w w1 w2:World} {g cp:Nat} {cl:List (List (List UInt8))} {op:List (List UInt8)} {cs:List Value} {c:Value} (h:OutG B w (.slice (some ⟨g,0,none⟩) (cl.length+1) cp) cl op cs c) (hb:Below w.heap.size w w1) (hg:w1.grownBy w2 c.ownBlock):w2.cell? ⟨g,cl.length,none⟩=some c∧w2.frozen? ⟨g,cl.length,none⟩=false:=by
 have h1:=h.below hb
 have hown2:=h1.own.kept hg (own_apart h1.own h1.last (Ne.symm tySG))
 refine ⟨?_,hown2.frozenAt _⟩
 rw[hown2.cellAt cl.length (by omega),←h.len]
 simp
theorem tot_len2:∀ l:List (List UInt8),l.length≤U.tot l
 | []=>Nat.zero_le _
 | r :: t=>by have:=tot_len2 t;simp only[List.length_cons,U.tot];omega
theorem totG_len:∀ cl:List (List (List UInt8)),(∀ g∈cl,g≠[])→cl.length≤totG cl
 | [],_=>Nat.zero_le _
 | g :: t,h=>by
  have h1:=totG_len t (fun x hx=>h x (by simp[hx]))
  have h2:0<U.tot g:=by
   have:=tot_len2 g
   have h3:0<g.length:=List.length_pos_iff.2 (h g (by simp))
   omega
  simp only[List.length_cons,totG]
  omega
theorem QZ.beg {s:ByteArray} {q:Nat} {n:Int} {T:List UInt8} {E:Nat} {O:Bool} {C:Int} {p:Nat} {R:List (List UInt8 × Bool)} {t w:List UInt8} (h:QZ s q n T E O C p true R t w) :
  ∃ b f i x c,RowE s p b∧FirN s p b f∧InN s p b i∧begA (kindN s p b f) i n p f x c∧((c=5∧T=[]∧E=x∧O=false∧C=5)∨(c=0∧p≤x∧x≤s.size∧QZ s q n T E O C x false R [] [])):=by
 cases h with
 | mark h1 h2 h3 h4 h5 h6 h7=>
  obtain ⟨i,hi⟩:=InN.ex s p _ h1.1
  refine ⟨_,_,i,p,5,h1,h2,hi,?_,.inl ⟨rfl,h4,h5,h6,h7⟩⟩
  rcases h3 with h3|h3
  ·exact .inr (.inl ⟨h3,rfl,rfl⟩)
  ·exact .inr (.inr (.inl ⟨h3,rfl,rfl⟩))
 | near h1 h2 h3 h4 h5 h6 h7 h8 h9 h10 h11=>exact ⟨_,_,_,_,5,h1,h2,h3,.inr (.inr (.inr (.inl ⟨h6,h4,h5,h7,rfl,rfl⟩))),.inl ⟨rfl,h8,h9,h10,h11⟩⟩
 | @row _ b f i _ _ _ h1 h2 h3 h4 h5 h6 h7=>
  refine ⟨_,_,_,_,0,h1,h2,h3,?_,.inr ⟨rfl,h2.1,Nat.le_trans h2.2.1 h1.2.1,h7⟩⟩
  rcases h6 with hk|hk
  ·exact .inl ⟨hk,rfl,rfl⟩
  ·rcases Decidable.em (kindN s p b f=1) with hk1|hk1
   ·exact .inl ⟨hk1,rfl,rfl⟩
   ·exact .inr (.inr (.inr (.inr ⟨hk1,h4,h5,hk,rfl,rfl⟩)))
theorem RowB.self {s:ByteArray} {p:Nat} (h:byt s (p-1)=10):RowB s p p:=⟨Nat.le_refl _,fun j h1 h2=>by omega,.inr h⟩
end Go.Proofs.YtncngeamdechmaaGreatDoor

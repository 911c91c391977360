/- Parts of the proof, put together from smaller texts (blanks that Lean does not want are struck). Conditions: those that each theorem writes out. -/
import Derived.Test.YthcmkpiajkbpnaaGreatDoorZ03
import Derived.Test.YthcmkpiajkbpnaaGreatDoorZ09
import Derived.Test.YthcmkpiajkbpnaaGreatDoorZ20
import Derived.Test.YthcmkpiajkbpnaaGreatDoorZ38
import Derived.Test.YthcmkpiajkbpnaaGreatDoorZ39
import Derived.Test.YthcmkpiajkbpnaaGreatDoorZ40
import Derived.Test.YthcmkpiajkbpnaaGreatDoorZ41
namespace Go.Proofs.YthcmkpiajkbpnaaGreatDoor
open Go.RowKit
def KB (fo:Bool) (n st:Int) (hh:Bool) (note:List UInt8) (d c w:Nat) (S:ByteArray) (R:List (List UInt8)) (L m:Nat) (f:Bool):Prop:=
 ∃ h,h≤S.size∧lfs S S.size=lfs S h+m∧∀ (Z:ByteArray) (T:List UInt8) (E:Nat) (C:Int),BZ (S++Z) d c w fo T E C S.size R L h f→BlocZ (S++Z) 0 n st T hh note (E:Int) C
end Go.Proofs.YthcmkpiajkbpnaaGreatDoor
namespace Go.Proofs.YthcmkpiajkbpnaaGreatDoor
open Go.RowKit
def nodeK (C st at':Int) (T:List UInt8) (h:Bool) (note:List UInt8):Array Value:=if C=0 then nodeL 1 st at' ⟨T.toArray⟩ h ⟨note.toArray⟩ else nodeL 0 0 0 ⟨#[]⟩ false ⟨#[]⟩
theorem nodeK_ex (C st at':Int) (T:List UInt8) (h:Bool) (note:List UInt8):∃ k s2 a2 T2 h2 n2,nodeK C st at' T h note=nodeL k s2 a2 T2 h2 n2:=by
 unfold nodeK
 split
 ·exact ⟨_,_,_,_,_,_,rfl⟩
 ·exact ⟨_,_,_,_,_,_,rfl⟩
structure BlocC:Prop where
 read:∀ (st:Int) (T:List UInt8) (h:Bool) (note:List UInt8) (E C:Int) (s:ByteArray) (at' n:Int) (w:World),s.size≤100000→BlocZ s at' n st T h note E C →
  Calls Tryz.prog 67 #[.string s,.int .i64 at',.int .i64 n] w fun e w'=>e=.returned (.tuple #[.agg (nodeK C st at' T h note),.int .i64 E,.int .i64 C])∧Below w.heap.size w w'
end Go.Proofs.YthcmkpiajkbpnaaGreatDoor
namespace Go.Proofs.YthcmkpiajkbpnaaGreatDoor
open Go.RowKit
theorem blocC:BlocC:=by
 constructor
 intro st T h note E C s at' n w hs hZ
 rcases hZ with ⟨h1,h2⟩|⟨h1,rfl,rfl⟩
 ·unfold blocB at h1
  rw[decide_eq_true_eq] at h1
  obtain ⟨a,rfl⟩:∃ a:Nat,at'=(a:Int):=⟨at'.toNat,by omega⟩
  rw[Int.toNat_natCast] at h1 h2
  obtain ⟨_,ha,hyc⟩:=h1
  obtain ⟨t,q,p,d,c,hx,hE,hF,hcase⟩:=h2
  have hs2:s.size≤1099511627776:=by omega
  have g:=hdr_le ha (by omega) hE
  have hd9:=hdr_dig s a
  have hsg:=hdr_sign s a
  rw[hx] at g hd9 hsg
  dsimp only at g hd9 hsg
  obtain ⟨r0,hB⟩:=RowB.ex s a
  obtain ⟨R,hR⟩:∃ R,s.extract 0 t=R:=⟨_,rfl⟩
  have hat:a<t:=by omega
  have ht2:=hE.2.1
  rcases hcase with ⟨hqt,hb,rfl,rfl⟩|⟨hN,hst,w0,E',rfl,hw,hZ⟩
  ·exact blocRead_hdr (q:Int) R s a r0 t n w hs ha hyc hB hE hR (fun W=>readHeader_is 0 0 false ⟨#[]⟩ (q:Int) 5 d c p s R a t W hs2 hat hR.symm hE hx (fun _ W'=>readTrail_bad d c false ⟨#[]⟩ R s p q t W' hs2 hR.symm ht2 hF hqt hb) (fun e=>by have:=hF.1;omega))
  ·have CH:=fun W=>readHeader_is d c h ⟨note.toArray⟩ 0 0 d c p s R a t W hs2 hat hR.symm hE hx (fun _ W'=>readTrail_good d c h note R s p q t W' hs2 hR.symm ht2 hF hN) (fun e=>by
    rcases hN with ⟨_,e1,e2⟩|⟨e1,_⟩
    ·subst e1 e2
     exact ⟨rfl,rfl,rfl,rfl,rfl,rfl⟩
    ·have:=hF.1
     omega)
   obtain ⟨f,hf⟩:∃ f,min (t+1) s.size=f:=⟨_,rfl⟩
   rw[hf] at hw hZ
   have hBf:f<s.size→RowB s f f:=fun hfs=>by
    obtain rfl:f=t+1:=by omega
    exact RowB.next hE (by omega)
   rcases width_any d c w0 E' (decide (byt s a=62)) T C s f n hs hd9 (by omega) (by omega) hBf hw hZ with ⟨rfl,CW⟩|⟨rfl,w1,R',L',h',hw1,hG,rfl,CW⟩
   ·exact blocRead_far (E':Int) d c f h ⟨note.toArray⟩ R s a r0 t n w hs ha hyc hB hE hR CH hf CW
   ·refine blocRead_good st (decide (byt s a=62)) w1 E' f d c R' L' h' h ⟨note.toArray⟩ R s a r0 t n w hs ha hB hE hR CH hf CW hw1 hG hBf hsg ?_
    rcases hyc with hy|hy
    ·refine .inl ⟨hy,?_,?_⟩
     ·rw[hst,hy]
      rfl
     ·rw[hy]
      rfl
    ·refine .inr ⟨hy,?_,?_⟩
     ·rw[hst,hy]
      rfl
     ·rw[hy]
      rfl
 ·exact blocRead_no s _ n w hs h1
end Go.Proofs.YthcmkpiajkbpnaaGreatDoor
namespace Go.Proofs.YthcmkpiajkbpnaaGreatDoor
open Go.RowKit
def smbU (x:UInt8):Bool:=!(decide (x=34∨x=39∨x=91∨x=123))
def Smb (s:ByteArray):Prop:=s.data.toList.all smbU=true
theorem Smb.byte {s:ByteArray} (h:Smb s) {p:Nat} (hp:p<s.size):∀ c,c=34∨c=39∨c=91∨c=123→byt s p≠c:=by
 intro c hc e
 have hl:p<s.data.toList.length:=by rw[←Lib.size_eq];exact hp
 have h1:smbU s.data.toList[p]=true:=List.all_eq_true.1 h _ (List.getElem_mem hl)
 have hb:=(show Pre s 0 s.data.toList by unfold Pre;rw[List.drop_zero];exact List.prefix_refl _).byte p hl
 rw[Nat.zero_add,e] at hb
 rw[show s.data.toList.getD p 0=s.data.toList[p] by simp[List.getD,List.getElem?_eq_getElem hl]] at hb
 generalize s.data.toList[p]=x at h1 hb
 unfold smbU at h1
 rw[Bool.not_eq_true',decide_eq_false_iff_not] at h1
 apply h1
 have:∀ k:UInt8,c=k.toNat→x=k:=fun k hk=>UInt8.toNat_inj.1 (hb.symm.trans hk)
 rcases hc with rfl|rfl|rfl|rfl
 ·exact .inl (this 34 rfl)
 ·exact .inr (.inl (this 39 rfl))
 ·exact .inr (.inr (.inl (this 91 rfl)))
 ·exact .inr (.inr (.inr (this 123 rfl)))
theorem Smb.cut {s:ByteArray} (t:Nat) (h:Smb s):Smb (cutB s t):=by
 unfold Smb at *
 rw[List.all_eq_true] at *
 intro x hx
 refine h x ?_
 unfold cutB at hx
 rw[ByteArray.data_extract,Array.toList_extract] at hx
 exact List.mem_of_mem_drop (List.mem_of_mem_take hx)
theorem Smp.smb {s:ByteArray} (h:Smp s):Smb s:=by
 unfold Smp at h
 unfold Smb
 rw[List.all_eq_true] at *
 intro x hx
 have:=h x hx
 unfold smpU at this
 unfold smbU
 rw[Bool.not_eq_true',decide_eq_false_iff_not] at *
 exact fun e=>this (by rcases e with e|e|e|e <;> simp[e])
set_option maxRecDepth 100000 in
set_option maxHeartbeats 3200000 in
theorem trCnt_bloc124 (s:ByteArray) (q:Nat) (n:Int) (deep:Nat) (o:Rd (NT × Nat)) (w:World) (hs:s.size≤10000) (hq:q<s.size) (hb:byt s q=124) (st:Int) (T:List UInt8) (hd:Bool) (nt:List UInt8) (E':Nat) (C:Int) (hZ:BlocZ s (q:Int) n st T hd nt (E':Int) C) (ho:o=if C=0 then .ok (.mk ⟨1,st,(q:Int),0,[],[],T,[],[],hd,nt⟩ [],E') else .bad E' C) :
  Calls Tryz.prog 38 #[.string s,.int .i64 (q:Int),.int .i64 n,.int .i64 (deep:Int)] w fun e w'=>CntPost w o e w':=by
 have hi:=run_byt s q hq _ rfl
 obtain ⟨W1,hW1⟩:∃ W1,W1=(w.alloc (.cells #[.int .i64 0,.int .i64 0,.int .i64 0,.int .i64 0,.string ⟨#[]⟩,.string ⟨#[]⟩,.string ⟨#[]⟩,.slice none 0 0,.slice none 0 0,.slice none 0 0,.bool false,.string ⟨#[]⟩] 27)).alloc (.cells #[.int .i64 1,.int .i64 1,.int .i64 (q:Int),.int .i64 0,.string ⟨#[]⟩,.string ⟨#[]⟩,.string ⟨#[]⟩,.slice none 0 0,.slice none 0 0,.slice none 0 0,.bool false,.string ⟨#[]⟩] 27):=⟨_,rfl⟩
 have u1:W1.heap.size=w.heap.size+2:=by rw[hW1];simp
 have b1:Below w.heap.size w W1:=by rw[hW1];exact ((Below.refl _ _).alloc (Nat.le_refl _) _).alloc (by simp) _
 have ra1:W1.heap[w.heap.size]?=some (.cells #[.int .i64 0,.int .i64 0,.int .i64 0,.int .i64 0,.string ⟨#[]⟩,.string ⟨#[]⟩,.string ⟨#[]⟩,.slice none 0 0,.slice none 0 0,.slice none 0 0,.bool false,.string ⟨#[]⟩] 27 (0,0)):=by rw[hW1];exact (heap_alloc_old _ _ (by simp)).trans (heap_alloc_new w _)
 have rn1:W1.heap[w.heap.size+1]?=some (.cells #[.int .i64 1,.int .i64 1,.int .i64 (q:Int),.int .i64 0,.string ⟨#[]⟩,.string ⟨#[]⟩,.string ⟨#[]⟩,.slice none 0 0,.slice none 0 0,.slice none 0 0,.bool false,.string ⟨#[]⟩] 27 (0,0)):=by
  rw[hW1]
  have:=heap_alloc_new (w.alloc (.cells #[.int .i64 0,.int .i64 0,.int .i64 0,.int .i64 0,.string ⟨#[]⟩,.string ⟨#[]⟩,.string ⟨#[]⟩,.slice none 0 0,.slice none 0 0,.slice none 0 0,.bool false,.string ⟨#[]⟩] 27)) (.cells #[.int .i64 1,.int .i64 1,.int .i64 (q:Int),.int .i64 0,.string ⟨#[]⟩,.string ⟨#[]⟩,.string ⟨#[]⟩,.slice none 0 0,.slice none 0 0,.slice none 0 0,.bool false,.string ⟨#[]⟩] 27)
  simpa using this
 have HW:=Lib.hid hW1
 clear hW1
 rw[hb] at hi
 have CP:=blocC.read st T hd nt (E':Int) C s (q:Int) n W1 (by omega) hZ
 obtain ⟨k1,k2,k3,k4,k5,k6,hk⟩:=nodeK_ex C st (q:Int) T hd nt
 rw[hk] at CP
 unfold nodeL at CP
 have HK:=Lib.hid hk
 clear hk
 clear hZ rn1
 go_enter Tryz.func38,Tryz.ntmps38
 go_upto_region 2 with fail
 rw[←HW.out]
 go_wp2_with fail
 refine CP.mono ?_
 rintro e w3 ⟨rfl,b3⟩
 clear CP
 have sz3:=b3.size
 have ra3:=(b3.block w.heap.size (by omega)).trans ra1
 have b03:Below w.heap.size w w3:=b1.trans (b3.mono (by omega))
 have qa3:∀ j,w3.cell? ⟨w.heap.size,j,none⟩=(#[.int .i64 0,.int .i64 0,.int .i64 0,.int .i64 0,.string ⟨#[]⟩,.string ⟨#[]⟩,.string ⟨#[]⟩,.slice none 0 0,.slice none 0 0,.slice none 0 0,.bool false,.string ⟨#[]⟩]:Array Value)[j]?:=fun j=>cell_of_row w3 _ j _ _ _ ra3
 have fa3:∀ j,w3.frozen? ⟨w.heap.size,j,none⟩=false:=fun j=>frozen_of_row w3 _ j _ _ ra3
 have HRA:=Lib.hid ra3
 clear ra3
 go_wp2
 obtain ⟨w12,hw12⟩:∃ w12,w12=((((((((((((w3.setCell ⟨w.heap.size,0,none⟩ (.int .i64 k1)).setCell ⟨w.heap.size,1,none⟩ (.int .i64 k2)).setCell ⟨w.heap.size,2,none⟩ (.int .i64 k3)).setCell ⟨w.heap.size,3,none⟩ (.int .i64 0)).setCell ⟨w.heap.size,4,none⟩ (.string ⟨#[]⟩)).setCell ⟨w.heap.size,5,none⟩ (.string ⟨#[]⟩)).setCell ⟨w.heap.size,6,none⟩ (.string k4)).setCell ⟨w.heap.size,7,none⟩ (.slice none 0 0)).setCell ⟨w.heap.size,8,none⟩ (.slice none 0 0)).setCell ⟨w.heap.size,9,none⟩ (.slice none 0 0)).setCell ⟨w.heap.size,10,none⟩ (.bool k5)).setCell ⟨w.heap.size,11,none⟩ (.string k6)):=⟨_,rfl⟩
 have r12:w12.heap[w.heap.size]?=some (.cells #[.int .i64 k1,.int .i64 k2,.int .i64 k3,.int .i64 0,.string ⟨#[]⟩,.string ⟨#[]⟩,.string k4,.slice none 0 0,.slice none 0 0,.slice none 0 0,.bool k5,.string k6] 27 (0,0)):=by rw[hw12];exact row12_set w3 (hg:=HRA.out) ..
 have b12:Below w.heap.size w3 w12:=by rw[hw12];exact row12_below w3 _ _ (Nat.le_refl _) _ _ _ _ _ _ _ _ _ _ _ _
 have z12:w12.heap.size=w3.heap.size:=by rw[hw12,row12_size]
 have s12:∀ k,¬ k=w.heap.size→w12.heap[k]?=w3.heap[k]?:=fun k hk=>by rw[hw12];exact row12_other w3 _ k hk ..
 rw[←hw12]
 clear hw12
 have hcz:∀ j,w12.cell? ⟨w.heap.size,j,none⟩=(#[.int .i64 k1,.int .i64 k2,.int .i64 k3,.int .i64 0,.string ⟨#[]⟩,.string ⟨#[]⟩,.string k4,.slice none 0 0,.slice none 0 0,.slice none 0 0,.bool k5,.string k6]:Array Value)[j]?:=fun j=>cell_of_row w12 _ j _ _ _ r12
 refine bodyPost_ret (v:=.tuple #[.agg #[.int .i64 k1,.int .i64 k2,.int .i64 k3,.int .i64 0,.string ⟨#[]⟩,.string ⟨#[]⟩,.string k4,.slice none 0 0,.slice none 0 0,.slice none 0 0,.bool k5,.string k6],.int .i64 (E':Int),.int .i64 C]) (by simp[results,Tryz.results38,go_sem,hcz]) rfl ?_
 have hk:=HK.out
 unfold nodeK at hk
 by_cases hC:C=0
 ·rw[if_pos hC] at hk
  unfold nodeL at hk
  simp only[Array.mk.injEq,List.cons.injEq,Value.int.injEq,Value.string.injEq,Value.bool.injEq,true_and,and_true] at hk
  obtain ⟨rfl,rfl,rfl,rfl,rfl,rfl⟩:=hk
  exact leaf_post rfl (b03.trans b12) ho
 ·rw[if_neg hC] at ho
  exact wrong_post ⟨_,_,_,_,_,_,_,_,_,_,_,_,_,_,_,_,_,_,rfl⟩ rfl (b03.trans b12) hC ho
set_option maxRecDepth 100000 in
set_option maxHeartbeats 3200000 in
theorem trCnt_bloc62 (s:ByteArray) (q:Nat) (n:Int) (deep:Nat) (o:Rd (NT × Nat)) (w:World) (hs:s.size≤10000) (hq:q<s.size) (hb:byt s q=62) (st:Int) (T:List UInt8) (hd:Bool) (nt:List UInt8) (E':Nat) (C:Int) (hZ:BlocZ s (q:Int) n st T hd nt (E':Int) C) (ho:o=if C=0 then .ok (.mk ⟨1,st,(q:Int),0,[],[],T,[],[],hd,nt⟩ [],E') else .bad E' C) :
  Calls Tryz.prog 38 #[.string s,.int .i64 (q:Int),.int .i64 n,.int .i64 (deep:Int)] w fun e w'=>CntPost w o e w':=by
 have hi:=run_byt s q hq _ rfl
 obtain ⟨W1,hW1⟩:∃ W1,W1=(w.alloc (.cells #[.int .i64 0,.int .i64 0,.int .i64 0,.int .i64 0,.string ⟨#[]⟩,.string ⟨#[]⟩,.string ⟨#[]⟩,.slice none 0 0,.slice none 0 0,.slice none 0 0,.bool false,.string ⟨#[]⟩] 27)).alloc (.cells #[.int .i64 1,.int .i64 1,.int .i64 (q:Int),.int .i64 0,.string ⟨#[]⟩,.string ⟨#[]⟩,.string ⟨#[]⟩,.slice none 0 0,.slice none 0 0,.slice none 0 0,.bool false,.string ⟨#[]⟩] 27):=⟨_,rfl⟩
 have u1:W1.heap.size=w.heap.size+2:=by rw[hW1];simp
 have b1:Below w.heap.size w W1:=by rw[hW1];exact ((Below.refl _ _).alloc (Nat.le_refl _) _).alloc (by simp) _
 have ra1:W1.heap[w.heap.size]?=some (.cells #[.int .i64 0,.int .i64 0,.int .i64 0,.int .i64 0,.string ⟨#[]⟩,.string ⟨#[]⟩,.string ⟨#[]⟩,.slice none 0 0,.slice none 0 0,.slice none 0 0,.bool false,.string ⟨#[]⟩] 27 (0,0)):=by rw[hW1];exact (heap_alloc_old _ _ (by simp)).trans (heap_alloc_new w _)
 have rn1:W1.heap[w.heap.size+1]?=some (.cells #[.int .i64 1,.int .i64 1,.int .i64 (q:Int),.int .i64 0,.string ⟨#[]⟩,.string ⟨#[]⟩,.string ⟨#[]⟩,.slice none 0 0,.slice none 0 0,.slice none 0 0,.bool false,.string ⟨#[]⟩] 27 (0,0)):=by
  rw[hW1]
  have:=heap_alloc_new (w.alloc (.cells #[.int .i64 0,.int .i64 0,.int .i64 0,.int .i64 0,.string ⟨#[]⟩,.string ⟨#[]⟩,.string ⟨#[]⟩,.slice none 0 0,.slice none 0 0,.slice none 0 0,.bool false,.string ⟨#[]⟩] 27)) (.cells #[.int .i64 1,.int .i64 1,.int .i64 (q:Int),.int .i64 0,.string ⟨#[]⟩,.string ⟨#[]⟩,.string ⟨#[]⟩,.slice none 0 0,.slice none 0 0,.slice none 0 0,.bool false,.string ⟨#[]⟩] 27)
  simpa using this
 have HW:=Lib.hid hW1
 clear hW1
 rw[hb] at hi
 have CP:=blocC.read st T hd nt (E':Int) C s (q:Int) n W1 (by omega) hZ
 obtain ⟨k1,k2,k3,k4,k5,k6,hk⟩:=nodeK_ex C st (q:Int) T hd nt
 rw[hk] at CP
 unfold nodeL at CP
 have HK:=Lib.hid hk
 clear hk
 clear hZ rn1
 go_enter Tryz.func38,Tryz.ntmps38
 go_upto_region 2 with fail
 rw[←HW.out]
 go_wp2_with fail
 refine CP.mono ?_
 rintro e w3 ⟨rfl,b3⟩
 clear CP
 have sz3:=b3.size
 have ra3:=(b3.block w.heap.size (by omega)).trans ra1
 have b03:Below w.heap.size w w3:=b1.trans (b3.mono (by omega))
 have qa3:∀ j,w3.cell? ⟨w.heap.size,j,none⟩=(#[.int .i64 0,.int .i64 0,.int .i64 0,.int .i64 0,.string ⟨#[]⟩,.string ⟨#[]⟩,.string ⟨#[]⟩,.slice none 0 0,.slice none 0 0,.slice none 0 0,.bool false,.string ⟨#[]⟩]:Array Value)[j]?:=fun j=>cell_of_row w3 _ j _ _ _ ra3
 have fa3:∀ j,w3.frozen? ⟨w.heap.size,j,none⟩=false:=fun j=>frozen_of_row w3 _ j _ _ ra3
 have HRA:=Lib.hid ra3
 clear ra3
 go_wp2
 obtain ⟨w12,hw12⟩:∃ w12,w12=((((((((((((w3.setCell ⟨w.heap.size,0,none⟩ (.int .i64 k1)).setCell ⟨w.heap.size,1,none⟩ (.int .i64 k2)).setCell ⟨w.heap.size,2,none⟩ (.int .i64 k3)).setCell ⟨w.heap.size,3,none⟩ (.int .i64 0)).setCell ⟨w.heap.size,4,none⟩ (.string ⟨#[]⟩)).setCell ⟨w.heap.size,5,none⟩ (.string ⟨#[]⟩)).setCell ⟨w.heap.size,6,none⟩ (.string k4)).setCell ⟨w.heap.size,7,none⟩ (.slice none 0 0)).setCell ⟨w.heap.size,8,none⟩ (.slice none 0 0)).setCell ⟨w.heap.size,9,none⟩ (.slice none 0 0)).setCell ⟨w.heap.size,10,none⟩ (.bool k5)).setCell ⟨w.heap.size,11,none⟩ (.string k6)):=⟨_,rfl⟩
 have r12:w12.heap[w.heap.size]?=some (.cells #[.int .i64 k1,.int .i64 k2,.int .i64 k3,.int .i64 0,.string ⟨#[]⟩,.string ⟨#[]⟩,.string k4,.slice none 0 0,.slice none 0 0,.slice none 0 0,.bool k5,.string k6] 27 (0,0)):=by rw[hw12];exact row12_set w3 (hg:=HRA.out) ..
 have b12:Below w.heap.size w3 w12:=by rw[hw12];exact row12_below w3 _ _ (Nat.le_refl _) _ _ _ _ _ _ _ _ _ _ _ _
 have z12:w12.heap.size=w3.heap.size:=by rw[hw12,row12_size]
 have s12:∀ k,¬ k=w.heap.size→w12.heap[k]?=w3.heap[k]?:=fun k hk=>by rw[hw12];exact row12_other w3 _ k hk ..
 rw[←hw12]
 clear hw12
 have hcz:∀ j,w12.cell? ⟨w.heap.size,j,none⟩=(#[.int .i64 k1,.int .i64 k2,.int .i64 k3,.int .i64 0,.string ⟨#[]⟩,.string ⟨#[]⟩,.string k4,.slice none 0 0,.slice none 0 0,.slice none 0 0,.bool k5,.string k6]:Array Value)[j]?:=fun j=>cell_of_row w12 _ j _ _ _ r12
 refine bodyPost_ret (v:=.tuple #[.agg #[.int .i64 k1,.int .i64 k2,.int .i64 k3,.int .i64 0,.string ⟨#[]⟩,.string ⟨#[]⟩,.string k4,.slice none 0 0,.slice none 0 0,.slice none 0 0,.bool k5,.string k6],.int .i64 (E':Int),.int .i64 C]) (by simp[results,Tryz.results38,go_sem,hcz]) rfl ?_
 have hk:=HK.out
 unfold nodeK at hk
 by_cases hC:C=0
 ·rw[if_pos hC] at hk
  unfold nodeL at hk
  simp only[Array.mk.injEq,List.cons.injEq,Value.int.injEq,Value.string.injEq,Value.bool.injEq,true_and,and_true] at hk
  obtain ⟨rfl,rfl,rfl,rfl,rfl,rfl⟩:=hk
  exact leaf_post rfl (b03.trans b12) ho
 ·rw[if_neg hC] at ho
  exact wrong_post ⟨_,_,_,_,_,_,_,_,_,_,_,_,_,_,_,_,_,_,rfl⟩ rfl (b03.trans b12) hC ho
theorem trCnt_smb (s:ByteArray) (q:Nat) (n:Int) (deep:Nat) (o:Rd (NT × Nat)) (w:World) (hs:s.size≤10000) (hP:Smb s) (hq:q<s.size) (ho:leafR s n deep false q o) :
  Calls Tryz.prog 38 #[.string s,.int .i64 (q:Int),.int .i64 n,.int .i64 (deep:Int)] w fun e w'=>CntPost w o e w':=by
 have is:∀ c,isB s q c=true→byt s q=c:=fun c h=>(isB_lt h).2
 have no:∀ c,¬ isB s q c=true→byt s q≠c:=fun c h e=>h (isB_in.2 ⟨hq,e⟩)
 unfold leafR at ho
 by_cases h42:isB s q 42=true
 ·rw[if_pos h42,if_neg (by decide)] at ho
  obtain ⟨A,E,C,hZ,ho⟩:=ho
  have hE:∃ E':Nat,E=(E':Int):=by
   rcases hZ.far_le with ⟨_,E2,rfl,_⟩|⟨_,h⟩
   ·exact ⟨E2,rfl⟩
   ·exact ⟨q,by omega⟩
  obtain ⟨E',rfl⟩:=hE
  rw[Int.toNat_natCast] at ho
  exact trCnt_alias s q n deep o w hs hq (is 42 h42) A E' C hZ ho
 rw[if_neg h42] at ho
 have hqt:¬ (isB s q 34=true∨isB s q 39=true):=fun h=>h.elim (fun h=>hP.byte hq 34 (by simp) (is _ h)) (fun h=>hP.byte hq 39 (by simp) (is _ h))
 rw[if_neg hqt] at ho
 have hbr:¬ (isB s q 91=true∨isB s q 123=true):=fun h=>h.elim (fun h=>hP.byte hq 91 (by simp) (is _ h)) (fun h=>hP.byte hq 123 (by simp) (is _ h))
 rw[if_neg hbr] at ho
 by_cases hbl:isB s q 124=true∨isB s q 62=true
 ·rw[if_pos hbl] at ho
  obtain ⟨st,T,hd,nt,E,C,hZ,ho⟩:=ho
  obtain ⟨E',rfl,_⟩:=hZ.far_le hq (hbl.imp (is _) (is _))
  rw[Int.toNat_natCast] at ho
  rcases hbl with h|h
  ·exact trCnt_bloc124 s q n deep o w hs hq (is _ h) st T hd nt E' C hZ ho
  ·exact trCnt_bloc62 s q n deep o w hs hq (is _ h) st T hd nt E' C hZ ho
 rw[if_neg hbl] at ho
 have hne:∀ c:Nat,¬ isB s q c=true→(((byt s q:Nat):Int)==(c:Int))=false:=fun c h=>by rw[beq_eq_false_iff_ne];have:=no c h;omega
 have go:∀ (A:List UInt8) (E':Nat) (C:Int) (O:Bool),PlaiZ s (q:Int) n false A (E':Int) O C→(o=if C=0 then .ok (.mk ⟨1,1,(q:Int),0,[],[],A,[],[],false,[]⟩ [],E') else .bad E' C)→_:=fun A E' C O hZ ho=>
  trCnt_plain s q n deep o w hs hq (byt s q) rfl (hne 91 fun h=>hbr (.inl h)) (hne 123 fun h=>hbr (.inr h)) (hne 124 fun h=>hbl (.inl h)) (hne 62 fun h=>hbl (.inr h)) (hne 42 h42) (hne 39 fun h=>hqt (.inr h)) (hne 34 fun h=>hqt (.inl h)) A E' C O hZ ho
 by_cases hb:begB s (q:Int) false=true
 ·rw[if_pos hb] at ho
  obtain ⟨T,E,O,C,hZ,ho⟩:=ho
  obtain ⟨E',rfl,_⟩:=hZ.far_le hb
  rw[Int.toNat_natCast] at ho
  exact go T E' C O hZ ho
 ·rw[if_neg hb] at ho
  refine go [] q 5 false ?_ (by rw[if_neg (by decide)];exact ho)
  unfold PlaiZ
  rw[if_pos (by simpa using hb)]
  exact ⟨rfl,rfl,rfl,rfl⟩
theorem cntB:CntC (fun _=>True) Smb:=⟨fun _ _ _ _=>trivial,fun _ t h=>h.cut t,fun _ h=>h.smb,fun s q n deep o w hs hP hq _ ho=>trCnt_smb s q n deep o w hs hP hq ho⟩
end Go.Proofs.YthcmkpiajkbpnaaGreatDoor
namespace Go.Proofs.YthcmkpiajkbpnaaGreatDoor
open Go.RowKit
theorem cntTB:CntC TabsE Smb:=⟨fun _ _ h hb=>Utf8Tabs_below h hb,cntB.cut,cntB.smp,fun s q n deep o w hs hP hq _ ho=>cntB.cnt s q n deep o w hs hP hq trivial ho⟩
theorem streB:StreC TabsE Smb:=⟨fun _ _ h hb=>Utf8Tabs_below h hb,cntB.smp,fun D T E C s w hs hP hE hZ=>stParse_is cntTB (fun _ h=>h) D T E C s w hs hP hE hZ⟩
end Go.Proofs.YthcmkpiajkbpnaaGreatDoor

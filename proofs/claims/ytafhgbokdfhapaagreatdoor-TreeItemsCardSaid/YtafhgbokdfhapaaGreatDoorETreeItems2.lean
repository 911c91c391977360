/- Parts of the proof of TreeItems, put together from smaller texts (blanks that Lean does not want are struck). Conditions: those that each theorem writes out. -/
import Derived.Test.YtafhgbokdfhapaaGreatDoorETreeItems1
import Derived.Test.YtafhgbokdfhapaaGreatDoorZ04
import Derived.Test.YtafhgbokdfhapaaGreatDoorZ29
namespace Go.Proofs.YtafhgbokdfhapaaGreatDoor
open Go.RowKit
def spc (n:Nat):List UInt8:=List.replicate n 32
theorem spc_len (n:Nat):(spc n).length=n:=List.length_replicate
theorem spc_mem {n:Nat} {x:UInt8} (h:x∈spc n):x=32:=List.eq_of_mem_replicate h
def gapL:List Nat:=[0,1,2]
def colL:List Nat:=[0,1,2,3]
def insL:List Nat:=[1,2,3,4]
theorem ti_pass:∀ w∈wordL,∀ i∈insL,wS false (2*(spc i++w).length+2) (spc i++w) false false true [] false=some ([],false,i):=by decide +kernel
theorem ti_plain:∀ w∈wordL,∀ g∈gapL,∀ c∈colL,∀ u∈wordL++[[45,32]],plainK (c:Int) false (w++(10 :: (U.feeds g++(spc c++u))))=some w.length:=by decide +kernel
theorem ti_plain_end:∀ w∈wordL,∀ c∈colL,plainK (c:Int) true (w++[10])=some w.length:=by decide +kernel
theorem ti_gap:∀ g∈gapL,∀ c∈colL,∀ u∈wordL++[[45,32]],wS false (2*(10 :: (U.feeds g++(spc c++u))).length+2) (10 :: (U.feeds g++(spc c++u))) false false true [] false=some ([],false,1+g+c):=by decide +kernel
theorem ti_top:∀ g∈gapL,∀ c∈colL,∀ u∈wordL++[[45,32]],wS false (2*(U.feeds g++(spc c++u)).length+2) (U.feeds g++(spc c++u)) true true false [] false=some ([],false,g+c):=by decide +kernel
theorem ti_end:wS true (2*[(10:UInt8)].length+2) [10] false false true [] false=some ([],false,1):=by decide +kernel
theorem ti_key:∀ w∈wordL,plainK 0 false (w++[58,32])=some w.length:=by decide +kernel
theorem ti_ne:∀ w∈wordL,w≠[]∧(∀ x∈w,x≠10)∧w.getD 0 0≠45∧w.getD 0 0≠46:=by decide +kernel
theorem lfs_run {s:ByteArray} {x:Nat}:∀ n:Nat,(∀ j,j<n→byt s (x+j)=10)→lfs s (x+n)=lfs s x+n
 | 0,_=>rfl
 | n+1,h=>by rw[show x+(n+1)=x+n+1 by omega,lfs_lf (h n (Nat.lt_succ_self _)),lfs_run n (fun j hj=>h j (Nat.lt_succ_of_lt hj))];omega
theorem row_lfT {s:ByteArray} {e:Nat} (h:e<s.size) (h10:byt s e=10):RowE s e e∧FirN s e e e:=⟨⟨Nat.le_refl _,Nat.le_of_lt h,fun j h1 h2=>by omega,.inr h10⟩,⟨Nat.le_refl _,Nat.le_refl _,fun j h1 h2=>by omega,.inl rfl⟩⟩
section
variable {s:ByteArray} {blk:Nat→Nat→Rd Tre→Prop}
theorem item_word {k:Spt} {c p i g:Nat} {w u l:List UInt8} (hkn:k.n=(c:Int)) (_hkb:k.bare=false) (hc:c∈colL) (hi:i∈insL) (hg:g∈gapL) (hw:w∈wordL) (hu:u∈wordL++[[45,32]]) (h0:0<p) (hb:byt s (p-1)≠10) (hwh:U.white (byt s (p-1):Int)=false) (hp:p≤s.size)
  (h:Pre s p (spc i++(w++(10 :: (U.feeds g++(spc c++(u++l))))))):nodT s blk k p (.ok (leafN 1 (p+i) w,[],p+i+w.length+1+g+c)):=by
 have hi1:1≤i:=by revert hi;unfold insL;simp;omega
 obtain ⟨a1,a2⟩:=h.app
 rw[spc_len] at a2
 obtain ⟨b1,b2⟩:=a2.app
 have hsz:=h.size hp
 simp only[List.length_append,List.length_cons,spc_len] at hsz
 obtain ⟨L,hL,hpass⟩:=pass_of (fin:=false) h0 (show Pre s p (spc i++w) from (show Pre s p ((spc i++w)++(10 :: (U.feeds g++(spc c++(u++l))))) by rw[List.append_assoc];exact h).app.1) (fun e=>by cases e) hb hwh (ti_pass w hw i hi) hp
 obtain rfl:L=[]:=List.map_eq_nil_iff.1 hL
 have hwin:Pre s (p+i) (w++(10 :: (U.feeds g++(spc c++u)))):=(show Pre s (p+i) ((w++(10 :: (U.feeds g++(spc c++u))))++l) by simpa [List.append_assoc] using a2).app.1
 obtain ⟨hZ,hB,hP⟩:=plain_ofK hwin (by omega) (fun e=>by cases e) (ti_plain w hw g hg c hc u hu)
 rw[List.take_left] at hZ
 have hlt:=(beg_not hB).1
 have hn:noneB s k.n k.bare k.flat p (p+i)=false:=by
  unfold noneB
  have hsr:sameRow s p (p+i)=true:=by
   have:=sameRow_of a1 (fun x hx=>by rw[spc_mem hx];decide)
   rwa [spc_len] at this
  have hbl:byt s (p+i-1)=32:=by
   have:=a1.byte (i-1) (by rw[spc_len];omega)
   rw[show p+(i-1)=p+i-1 by omega] at this
   rw[this]
   have:(spc i).getD (i-1) 0=32:=by
    simp only[List.getD]
    rw[List.getElem?_eq_getElem (by rw[spc_len];omega),Option.getD_some]
    exact spc_mem (List.getElem_mem _)
   rw[this];rfl
  rw[over_in hlt (.inl (row0_in (by omega) (by rw[hbl];decide))),hsr,Bool.or_true]
  rfl
 obtain ⟨c1,c2,c3⟩:=b2.cons
 have hlf:=row_lfT c1 c2
 have hlb:=last_byte a2 hw
 have hwne:0<w.length:=List.length_pos_iff.2 (ti_ne w hw).1
 have hwin2:Pre s (p+i+w.length) (10 :: (U.feeds g++(spc c++u))):=(show Pre s (p+i+w.length) ((10 :: (U.feeds g++(spc c++u)))++l) by simpa [List.append_assoc] using b2).app.1
 obtain ⟨L2,hL2,hpass2⟩:=pass_of (fin:=false) (by omega) hwin2 (fun e=>by cases e) hlb.1 hlb.2.1 (ti_gap g hg c hc u hu) (by omega)
 obtain rfl:L2=[]:=List.map_eq_nil_iff.1 hL2
 have hkZ:PlaiZ s ((p+i:Nat):Int) k.n false w ((p+i+w.length:Nat):Int) true 0:=by rw[hkn];exact hZ
 have:=nod_plain (blk:=blk) (k:=k) hpass hn hB hP hkZ hlf.1 hlf.2 (.inl rfl) hpass2
 rw[show p+i+w.length+(1+g+c)=p+i+w.length+1+g+c by omega] at this
 exact this
theorem item_end {k:Spt} {c p i:Nat} {w:List UInt8} (hkn:k.n=(c:Int)) (_hkb:k.bare=false) (hc:c∈colL) (hi:i∈insL) (hw:w∈wordL) (h0:0<p) (hb:byt s (p-1)≠10) (hwh:U.white (byt s (p-1):Int)=false) (hp:p≤s.size)
  (h:Pre s p (spc i++(w++[10]))) (hs:s.size=p+i+w.length+1):nodT s blk k p (.ok (leafN 1 (p+i) w,[],s.size)):=by
 have hi1:1≤i:=by revert hi;unfold insL;simp;omega
 obtain ⟨a1,a2⟩:=h.app
 rw[spc_len] at a2
 obtain ⟨b1,b2⟩:=a2.app
 obtain ⟨L,hL,hpass⟩:=pass_of (fin:=false) h0 (show Pre s p (spc i++w) from (show Pre s p ((spc i++w)++[10]) by rw[List.append_assoc];exact h).app.1) (fun e=>by cases e) hb hwh (ti_pass w hw i hi) hp
 obtain rfl:L=[]:=List.map_eq_nil_iff.1 hL
 obtain ⟨hZ,hB,hP⟩:=plain_ofK (fin:=true) a2 (by omega) (fun _=>by rw[List.length_append];show s.size=p+i+(w.length+1);omega) (ti_plain_end w hw c hc)
 rw[List.take_left] at hZ
 have hlt:=(beg_not hB).1
 have hn:noneB s k.n k.bare k.flat p (p+i)=false:=by
  unfold noneB
  have hsr:sameRow s p (p+i)=true:=by
   have:=sameRow_of a1 (fun x hx=>by rw[spc_mem hx];decide)
   rwa [spc_len] at this
  have hbl:byt s (p+i-1)=32:=by
   have:=a1.byte (i-1) (by rw[spc_len];omega)
   rw[show p+(i-1)=p+i-1 by omega] at this
   rw[this]
   have:(spc i).getD (i-1) 0=32:=by
    simp only[List.getD]
    rw[List.getElem?_eq_getElem (by rw[spc_len];omega),Option.getD_some]
    exact spc_mem (List.getElem_mem _)
   rw[this];rfl
  rw[over_in hlt (.inl (row0_in (by omega) (by rw[hbl];decide))),hsr,Bool.or_true]
  rfl
 obtain ⟨c1,c2,c3⟩:=b2.cons
 have hlf:=row_lfT c1 c2
 have hlb:=last_byte a2 hw
 have hwne:0<w.length:=List.length_pos_iff.2 (ti_ne w hw).1
 obtain ⟨L2,hL2,hpass2⟩:=pass_of (fin:=true) (by omega) b2 (fun _=>by show s.size=p+i+w.length+1;exact hs) hlb.1 hlb.2.1 ti_end (by omega)
 obtain rfl:L2=[]:=List.map_eq_nil_iff.1 hL2
 have hkZ:PlaiZ s ((p+i:Nat):Int) k.n false w ((p+i+w.length:Nat):Int) true 0:=by rw[hkn];exact hZ
 have:=nod_plain (blk:=blk) (k:=k) hpass hn hB hP hkZ hlf.1 hlf.2 (.inl rfl) hpass2
 rw[hs]
 exact this
theorem next_at {e g c:Nat} {u l:List UInt8} (h:Pre s e (10 :: (U.feeds g++(spc c++(u++l))))) (h0:0<e) (hw:wl (byt s (e-1))=false):Pre s (e+1+g+c) (u++l)∧colF s (e+1+g+c)=c∧Abv s (e+1+g+c) e g:=by
 obtain ⟨h1,h2,h3⟩:=h.cons
 obtain ⟨a1,a2⟩:=h3.app
 rw[U.feeds_length] at a2
 obtain ⟨b1,b2⟩:=a2.app
 rw[spc_len] at b2
 have hlf:∀ j,j<1+g→byt s (e+j)=10:=fun j hj=>by
  cases j with
  | zero=>exact h2
  | succ j=>
   have:=a1.byte j (by rw[U.feeds_length];omega)
   rw[show e+(j+1)=e+1+j by omega,this]
   have:(U.feeds g).getD j 0=10:=by
    simp only[List.getD]
    rw[List.getElem?_eq_getElem (by rw[U.feeds_length];omega),Option.getD_some]
    exact List.eq_of_mem_replicate (List.getElem_mem _)
   rw[this];rfl
 have hsp:∀ j,j<c→byt s (e+1+g+j)=32:=fun j hj=>by
  have:=b1.byte j (by rw[spc_len];omega)
  rw[this]
  have:(spc c).getD j 0=32:=by
   simp only[List.getD]
   rw[List.getElem?_eq_getElem (by rw[spc_len];omega),Option.getD_some]
   exact spc_mem (List.getElem_mem _)
  rw[this];rfl
 refine ⟨b2,colF_at (.inr ?_) c (fun j hj=>by rw[hsp j hj];decide),by omega,fun j j1 j2=>?_,.inr ⟨h0,hw,?_⟩⟩
 ·have:=hlf g (by omega)
  rwa [show e+1+g-1=e+g by omega]
 ·by_cases hj:j<e+1+g
  ·have:=hlf (j-e) (by omega)
   rw[show e+(j-e)=j by omega] at this
   rw[this];decide
  ·have:=hsp (j-(e+1+g)) (by omega)
   rw[show e+1+g+(j-(e+1+g))=j by omega] at this
   rw[this];decide
 ·have e1:=lfs_run (s:=s) (x:=e) (1+g) hlf
  have e2:=lfs_same (s:=s) (a:=e+1+g) (e+1+g+c) (by omega) (fun j j1 j2=>by
   have:=hsp (j-(e+1+g)) (by omega)
   rw[show e+1+g+(j-(e+1+g))=j by omega] at this
   rw[this];decide)
  rw[show e+(1+g)=e+1+g by omega] at e1
  omega
def tlI (c:Nat):List (List UInt8 × Nat × Nat)→List UInt8
 | []=>[]
 | (w,i,g) :: r=>U.feeds g++(spc c++(45 :: (spc i++(w++(10 :: tlI c r)))))
def KidsI:List (List UInt8 × Nat × Nat)→List NT→Prop
 | [],ts=>ts=[]
 | (w,_,g) :: r,ts=>∃ q t,ts=(leafN 1 q w).withTop [] (g:Int) :: t∧KidsI r t
def okI (x:List UInt8 × Nat × Nat):Prop:=x.1∈wordL∧x.2.1∈insL∧x.2.2∈gapL
theorem spc_one {i:Nat} (h:i∈insL):∃ j,spc i=32 :: spc j:=by
 unfold insL at h
 simp at h
 rcases h with rfl|rfl|rfl|rfl
 ·exact ⟨0,rfl⟩
 ·exact ⟨1,rfl⟩
 ·exact ⟨2,rfl⟩
 ·exact ⟨3,rfl⟩
theorem dash_at {p i:Nat} {l:List UInt8} (hi:i∈insL) (h:Pre s p (45 :: (spc i++l))):markB s p 45=true∧overB s p=false:=by
 obtain ⟨j,hj⟩:=spc_one hi
 rw[hj] at h
 obtain ⟨h1,h2,h3⟩:=h.cons
 obtain ⟨g1,g2,_⟩:=h3.cons
 refine ⟨?_,over_in h1 (.inr ⟨m3_not (.inr (isB_no (by rw[g2];decide))),m3_not (.inr (isB_no (by rw[g2];decide)))⟩)⟩
 have h2':byt s p=45:=h2
 unfold markB
 rw[isB_in.2 ⟨h1,h2'⟩,endsB_in s _ g1,g2]
 decide
theorem wl_last {p:Nat} {w l:List UInt8} (h:Pre s p (w++l)) (hw:w∈wordL):wl (byt s (p+w.length-1))=false:=by
 obtain ⟨h1,h2,_⟩:=last_byte h hw
 unfold wl
 rw[decide_eq_false h1,h2]
 rfl
theorem seq_items {c deep:Nat} (hc:c∈colL):∀ (r:List (List UInt8 × Nat × Nat)) (w:List UInt8) (i g p:Nat) (kids:List NT),okI (w,i,g)→(∀ x∈r,okI x)→Pre s p (45 :: (spc i++(w++(10 :: tlI c r))))→s.size=p+(45 :: (spc i++(w++(10 :: tlI c r)))).length→colF s p=c→(∃ k,Abv s p k g) →
  ∃ ks,KidsI ((w,i,g) :: r) ks∧SeqT s blk c deep (.ok (kids++ks,[],s.size)) p [] kids:=by
 intro r
 induction r with
 | nil=>
  intro w i g p kids ho _ h hs hcol hA
  obtain ⟨hw,hi,hg⟩:=ho
  obtain ⟨h1,h2,h3⟩:=h.cons
  obtain ⟨k,hA⟩:=hA
  have hs:s.size=p+1+i+w.length+1:=by rw[hs];simp[tlI,spc_len];omega
  have hn:=item_end (blk:=blk) (k:=⟨c,true,false,false,deep,false⟩) (c:=c) rfl rfl hc hi hw (by omega) (by rw[Nat.add_sub_cancel,h2];decide) (by rw[Nat.add_sub_cancel,h2];decide) (by omega) h3 (by omega)
  refine ⟨[(leafN 1 (p+1+i) w).withTop [] (g:Int)],⟨_,[],rfl,rfl⟩,.over hn hA (.inl ?_) rfl⟩
  unfold overB
  rw[decide_eq_true (Nat.le_refl _)]
  rfl
 | cons x r ih=>
  intro w i g p kids ho hr h hs hcol hA
  obtain ⟨w2,i2,g2⟩:=x
  obtain ⟨hw,hi,hg⟩:=ho
  have ho2:=hr (w2,i2,g2) (List.mem_cons_self ..)
  obtain ⟨hw2,hi2,hg2⟩:=ho2
  obtain ⟨h1,h2,h3⟩:=h.cons
  obtain ⟨k,hA⟩:=hA
  obtain ⟨j,hj⟩:=spc_one hi2
  have hsz:s.size=p+1+i+w.length+1+g2+c+(1+i2+w2.length+1+(tlI c r).length):=by rw[hs];simp[tlI,spc_len,U.feeds_length];omega
  have htl:tlI c ((w2,i2,g2) :: r)=U.feeds g2++(spc c++([45,32]++(spc j++(w2++(10 :: tlI c r))))):=by
   show U.feeds g2++(spc c++(45 :: (spc i2++(w2++(10 :: tlI c r)))))=_
   rw[hj];rfl
  rw[htl] at h3
  have hn:=item_word (blk:=blk) (k:=⟨c,true,false,false,deep,false⟩) (c:=c) rfl rfl hc hi hg2 hw (u:=[45,32]) (by simp) (by omega) (by rw[Nat.add_sub_cancel,h2];decide) (by rw[Nat.add_sub_cancel,h2];decide) (by omega) h3
  obtain ⟨a1,a2⟩:=h3.app
  rw[spc_len] at a2
  obtain ⟨b1,b2⟩:=a2.app
  have hwne:0<w.length:=List.length_pos_iff.2 (ti_ne w hw).1
  obtain ⟨n1,n2,n3⟩:=next_at b2 (by omega) (wl_last a2 hw)
  have n1':Pre s (p+1+i+w.length+1+g2+c) (45 :: (spc i2++(w2++(10 :: tlI c r)))):=by rw[hj];exact n1
  obtain ⟨d1,d2⟩:=dash_at hi2 n1'
  obtain ⟨ks,hks,hS⟩:=ih w2 i2 g2 (p+1+i+w.length+1+g2+c) (kids++[(leafN 1 (p+1+i) w).withTop [] (g:Int)]) ⟨hw2,hi2,hg2⟩ (fun x hx=>hr x (List.mem_cons_of_mem _ hx)) n1' (by simp only[List.length_cons,List.length_append,spc_len];omega) n2 ⟨_,n3⟩
  refine ⟨(leafN 1 (p+1+i) w).withTop [] (g:Int) :: ks,⟨_,_,rfl,hks⟩,.go hn hA d2 n2 d1 ?_⟩
  rw[show kids++(leafN 1 (p+1+i) w).withTop [] (g:Int) :: ks=kids++[(leafN 1 (p+1+i) w).withTop [] (g:Int)]++ks by simp]
  exact hS
theorem key_at {p i:Nat} {w l:List UInt8} (hw:w∈wordL) (hi:i∈insL) (hp:p≤s.size) (h:Pre s p (w++(58 :: (spc i++l)))):∃ t,begB s (p:Int) false=true∧ParN s false p (p+w.length)∧pieceL s p (p+w.length)=w∧RowE s (p+w.length) t∧FirN s (p+w.length) t (p+w.length)∧markB s (p+w.length) 58=true∧overB s p=false:=by
 obtain ⟨j,hj⟩:=spc_one hi
 rw[hj] at h
 have hwin:Pre s p (w++[58,32]):=(show Pre s p ((w++[58,32])++(spc j++l)) by simpa [List.append_assoc] using h).app.1
 obtain ⟨_,hB,hP⟩:=plain_ofK hwin hp (fun e=>by cases e) (ti_key w hw)
 obtain ⟨a1,a2⟩:=h.app
 obtain ⟨b1,b2,b3⟩:=a2.cons
 obtain ⟨c1,c2,_⟩:=b3.cons
 have b2':byt s (p+w.length)=58:=b2
 obtain ⟨t,ht⟩:=RowE.ex s (p+w.length) (by omega)
 have hne:=ti_ne w hw
 have hwne:0<w.length:=List.length_pos_iff.2 hne.1
 have h0:=a1.byte 0 hwne
 rw[Nat.add_zero] at h0
 refine ⟨t,hB,hP,hwin.piece,ht,⟨Nat.le_refl _,ht.1,fun j j1 j2=>by omega,.inr (by rw[b2'];decide)⟩,?_,over_in (beg_not hB).1 (.inr ⟨m3_not (.inl (isB_no ?_)),m3_not (.inl (isB_no ?_))⟩)⟩
 ·unfold markB
  rw[isB_in.2 ⟨b1,b2'⟩,endsB_in s _ c1,c2]
  decide
 ·rw[h0];exact fun e=>hne.2.2.1 ((u8_eq (by decide)).1 e)
 ·rw[h0];exact fun e=>hne.2.2.2 ((u8_eq (by decide)).1 e)
def tlE (c:Nat):List (List UInt8 × Nat × Nat)→List UInt8
 | []=>[]
 | (w,i,g) :: r=>U.feeds g++(spc c++(w++(58 :: (spc i++(w++(10 :: tlE c r))))))
def KidsE:List (List UInt8 × Nat × Nat)→List NT→Prop
 | [],ts=>ts=[]
 | (w,_,g) :: r,ts=>∃ q q2 t,ts=(leafN 1 q w).withTop [] (g:Int) :: leafN 1 q2 w :: t∧KidsE r t
theorem map_items {c deep:Nat} (hc:c∈colL):∀ (r:List (List UInt8 × Nat × Nat)) (w:List UInt8) (i g p:Nat) (kids:List NT),okI (w,i,g)→(∀ x∈r,okI x)→Pre s p (w++(58 :: (spc i++(w++(10 :: tlE c r)))))→s.size=p+(w++(58 :: (spc i++(w++(10 :: tlE c r))))).length→colF s p=c→(∃ k,Abv s p k g) →
  ∃ ks,KidsE ((w,i,g) :: r) ks∧MapT s blk c deep (.ok (kids++ks,[],s.size)) p [] kids:=by
 intro r
 induction r with
 | nil=>
  intro w i g p kids ho _ h hs hcol hA
  obtain ⟨hw,hi,hg⟩:=ho
  obtain ⟨k,hA⟩:=hA
  have hs:s.size=p+w.length+1+i+w.length+1:=by rw[hs];simp[tlE,spc_len];omega
  obtain ⟨t,k1,k2,k3,k4,k5,k6,_⟩:=key_at hw hi (by omega) h
  obtain ⟨h1,h2,h3⟩:=h.app.2.cons
  have hn:=item_end (blk:=blk) (k:=⟨c,false,false,true,deep,false⟩) (c:=c) (p:=p+w.length+1) rfl rfl hc hi hw (by omega) (by rw[Nat.add_sub_cancel,h2];decide) (by rw[Nat.add_sub_cancel,h2];decide) (by omega) h3 (by omega)
  refine ⟨[(leafN 1 p w).withTop [] (g:Int),leafN 1 (p+w.length+1+i) w],⟨_,_,[],rfl,rfl⟩,.over (pair_plain k1 k2 k3 k4 k5 k6 hn) hA (.inl ?_) rfl⟩
  unfold overB
  rw[decide_eq_true (Nat.le_refl _)]
  rfl
 | cons x r ih=>
  intro w i g p kids ho hr h hs hcol hA
  obtain ⟨w2,i2,g2⟩:=x
  obtain ⟨hw,hi,hg⟩:=ho
  have ho2:=hr (w2,i2,g2) (List.mem_cons_self ..)
  obtain ⟨hw2,hi2,hg2⟩:=ho2
  obtain ⟨k,hA⟩:=hA
  have hsz:s.size=p+w.length+1+i+w.length+1+g2+c+(w2.length+1+i2+w2.length+1+(tlE c r).length):=by rw[hs];simp[tlE,spc_len,U.feeds_length];omega
  obtain ⟨t,k1,k2,k3,k4,k5,k6,_⟩:=key_at hw hi (by omega) h
  obtain ⟨h1,h2,h3⟩:=h.app.2.cons
  have hn:=item_word (blk:=blk) (k:=⟨c,false,false,true,deep,false⟩) (c:=c) (p:=p+w.length+1) rfl rfl hc hi hg2 hw (u:=w2) (List.mem_append_left _ hw2) (by omega) (by rw[Nat.add_sub_cancel,h2];decide) (by rw[Nat.add_sub_cancel,h2];decide) (by omega) h3
  obtain ⟨a1,a2⟩:=h3.app
  rw[spc_len] at a2
  obtain ⟨b1,b2⟩:=a2.app
  have hwne:0<w.length:=List.length_pos_iff.2 (ti_ne w hw).1
  obtain ⟨n1,n2,n3⟩:=next_at b2 (by omega) (wl_last a2 hw)
  obtain ⟨t2,e1,e2,e3,e4,e5,e6,e7⟩:=key_at hw2 hi2 (by omega) n1
  have hK:=key_plain e1 e2 e4 e5
  rw[e6,if_pos rfl] at hK
  obtain ⟨ks,hks,hS⟩:=ih w2 i2 g2 (p+w.length+1+i+w.length+1+g2+c) (kids++[(leafN 1 p w).withTop [] (g:Int),leafN 1 (p+w.length+1+i) w]) ⟨hw2,hi2,hg2⟩ (fun x hx=>hr x (List.mem_cons_of_mem _ hx)) n1 (by simp only[List.length_cons,List.length_append,spc_len];omega) n2 ⟨_,n3⟩
  refine ⟨(leafN 1 p w).withTop [] (g:Int) :: leafN 1 (p+w.length+1+i) w :: ks,⟨_,_,_,rfl,hks⟩,.go (pair_plain k1 k2 k3 k4 k5 k6 hn) hA e7 hK (beg_not e1).2.2.1 n2 (.inl (by simp)) ?_⟩
  rw[show kids++(leafN 1 p w).withTop [] (g:Int) :: leafN 1 (p+w.length+1+i) w :: ks=kids++[(leafN 1 p w).withTop [] (g:Int),leafN 1 (p+w.length+1+i) w]++ks by simp]
  exact hS
end
theorem top_at {s:ByteArray} {g c:Nat} {u l:List UInt8} (hg:g∈gapL) (hc:c∈colL) (hu:u∈wordL++[[45,32]]) (h:Pre s 0 (U.feeds g++(spc c++(u++l)))):passR s 0 (.ok ([],false,g+c))∧Pre s (g+c) (u++l)∧colF s (g+c)=c∧Abv s (g+c) 0 g:=by
 obtain ⟨a1,a2⟩:=h.app
 rw[U.feeds_length,Nat.zero_add] at a2
 obtain ⟨b1,b2⟩:=a2.app
 rw[spc_len] at b2
 obtain ⟨L,hL,hp⟩:=pass_row (fin:=false) (.inl rfl) (show Pre s 0 (U.feeds g++(spc c++u)) from (show Pre s 0 ((U.feeds g++(spc c++u))++l) by simpa [List.append_assoc] using h).app.1) (fun e=>by cases e) (ti_top g hg c hc u hu) (Nat.zero_le _)
 obtain rfl:L=[]:=List.map_eq_nil_iff.1 hL
 rw[Nat.zero_add] at hp
 have hlf:∀ j,j<g→byt s j=10:=fun j hj=>by
  have:=a1.byte j (by rw[U.feeds_length];omega)
  rw[Nat.zero_add] at this
  rw[this]
  have:(U.feeds g).getD j 0=10:=by
   simp only[List.getD]
   rw[List.getElem?_eq_getElem (by rw[U.feeds_length];omega),Option.getD_some]
   exact List.eq_of_mem_replicate (List.getElem_mem _)
  rw[this];rfl
 have hsp:∀ j,j<c→byt s (g+j)=32:=fun j hj=>by
  have:=b1.byte j (by rw[spc_len];omega)
  rw[this]
  have:(spc c).getD j 0=32:=by
   simp only[List.getD]
   rw[List.getElem?_eq_getElem (by rw[spc_len];omega),Option.getD_some]
   exact spc_mem (List.getElem_mem _)
  rw[this];rfl
 refine ⟨hp,b2,colF_at ?_ c (fun j hj=>by rw[hsp j hj];decide),Nat.zero_le _,fun j j1 _=>?_,.inl ⟨rfl,?_⟩⟩
 ·cases g with
  | zero=>exact .inl rfl
  | succ g=>exact .inr (hlf g (Nat.lt_succ_self _))
 ·by_cases hj:j<g
  ·rw[hlf j hj];decide
  ·have:=hsp (j-g) (by omega)
   rw[show g+(j-g)=j by omega] at this
   rw[this];decide
 ·have e1:=lfs_run (s:=s) (x:=0) g (fun j hj=>by rw[Nat.zero_add];exact hlf j hj)
  have e2:=lfs_same (s:=s) (a:=g) (g+c) (by omega) (fun j j1 j2=>by
   have:=hsp (j-g) (by omega)
   rw[show g+(j-g)=j by omega] at this
   rw[this];decide)
  rw[Nat.zero_add] at e1
  have e0:lfs s 0=0:=rfl
  omega
theorem tree_of {s:ByteArray} {p:Nat} {x:Tre} {g:Nat} (hp:passR s 0 (.ok ([],false,p))) (ho:overB s p=false) (hop:OpenR s p true) (hx:blkR s g 0 p (.ok x)) (hov:overB s x.2.2=true):TreeZ s 0 false (some (x.1.withLead x.1.h.lead)) x.2.1 (x.2.2:Int) 0:=by
 have hn:noneB s (-1) true false 0 p=false:=by
  unfold noneB
  rw[ho]
  rfl
 refine ⟨g,_,nod_block (k:=⟨-1,false,true,false,0,false⟩) (by rw[show (min (0:Int) (s.size:Int)).toNat=0 by omega];exact hp) (by rw[show (min (0:Int) (s.size:Int)).toNat=0 by omega];exact hn) hop (.inl rfl) hx,?_⟩
 show if overB s x.2.2=true then _ else _
 rw[if_pos hov,List.nil_append]
 exact ⟨rfl,rfl,rfl,rfl⟩
theorem over_end (s:ByteArray):overB s s.size=true:=by
 unfold overB
 rw[decide_eq_true (Nat.le_refl _)]
 rfl
theorem items_text {s:ByteArray} {c:Nat} (hc:c∈colL) {r:List (List UInt8 × Nat × Nat)} {w:List UInt8} {i g:Nat} (ho:okI (w,i,g)) (hr:∀ x∈r,okI x) (h:s.data.toList=tlI c ((w,i,g) :: r)):∃ ks q,KidsI ((w,i,g) :: r) ks∧TreeZ s 0 false (some (.mk ⟨3,6,q,0,[],[],[],[],[],false,[]⟩ ks)) [] (s.size:Int) 0:=by
 obtain ⟨hw,hi,hg⟩:=ho
 obtain ⟨j,hj⟩:=spc_one hi
 have hP:Pre s 0 (U.feeds g++(spc c++([45,32]++(spc j++(w++(10 :: tlI c r)))))):=by
  unfold Pre
  rw[List.drop_zero,h]
  show _ <+: U.feeds g++(spc c++(45 :: (spc i++(w++(10 :: tlI c r)))))
  rw[hj]
  exact List.prefix_refl _
 obtain ⟨t1,t2,t3,t4⟩:=top_at hg hc (by simp) hP
 have t2':Pre s (g+c) (45 :: (spc i++(w++(10 :: tlI c r)))):=by rw[hj];exact t2
 obtain ⟨d1,d2⟩:=dash_at hi t2'
 have hs:s.size=g+c+(45 :: (spc i++(w++(10 :: tlI c r)))).length:=by
  rw[Lib.size_eq,h]
  simp[tlI,spc_len,U.feeds_length]
  omega
 obtain ⟨ks,hks,hS⟩:=seq_items (blk:=blkR s 0) (deep:=1) hc r w i g (g+c) [] ⟨hw,hi,hg⟩ hr t2' hs t3 ⟨0,t4⟩
 refine ⟨ks,((g+c:Nat):Int),hks,?_⟩
 have hB:blkR s 1 0 (g+c) (.ok (.mk ⟨3,6,((g+c:Nat):Int),0,[],[],[],[],[],false,[]⟩ ks,[],s.size)):=by
  refine .inr ⟨by decide,?_⟩
  rw[if_pos d1,t3]
  exact .ok hS rfl
 exact tree_of t1 d2 (open_mark (.inl rfl) d1) hB (over_end s)
theorem entries_text {s:ByteArray} {c:Nat} (hc:c∈colL) {r:List (List UInt8 × Nat × Nat)} {w:List UInt8} {i g:Nat} (ho:okI (w,i,g)) (hr:∀ x∈r,okI x) (h:s.data.toList=tlE c ((w,i,g) :: r)):∃ ks q,KidsE ((w,i,g) :: r) ks∧TreeZ s 0 false (some (.mk ⟨4,6,q,0,[],[],[],[],[],false,[]⟩ ks)) [] (s.size:Int) 0:=by
 obtain ⟨hw,hi,hg⟩:=ho
 have hw:w∈wordL:=hw
 have hi:i∈insL:=hi
 have hg:g∈gapL:=hg
 have hP:Pre s 0 (U.feeds g++(spc c++(w++(58 :: (spc i++(w++(10 :: tlE c r))))))):=by
  unfold Pre
  rw[List.drop_zero,h]
  exact List.prefix_refl _
 obtain ⟨t1,t2,t3,t4⟩:=top_at hg hc (List.mem_append_left _ hw) hP
 have hs:s.size=g+c+(w++(58 :: (spc i++(w++(10 :: tlE c r))))).length:=by
  rw[Lib.size_eq,h]
  simp[tlE,spc_len,U.feeds_length]
  omega
 obtain ⟨t,k1,k2,k3,k4,k5,k6,k7⟩:=key_at hw hi (by omega) t2
 obtain ⟨ks,hks,hS⟩:=map_items (blk:=blkR s 0) (deep:=1) hc r w i g (g+c) [] ⟨hw,hi,hg⟩ hr t2 hs t3 ⟨0,t4⟩
 refine ⟨ks,((g+c:Nat):Int),hks,?_⟩
 have hB:blkR s 1 0 (g+c) (.ok (.mk ⟨4,6,((g+c:Nat):Int),0,[],[],[],[],[],false,[]⟩ ks,[],s.size)):=by
  refine .inr ⟨by decide,?_⟩
  rw[if_neg (by rw[(beg_not k1).2.2.2.2 45 (.inl rfl)];decide),t3]
  exact .ok hS rfl
 exact tree_of t1 k7 (open_key k1 k2 k4 k5 k6) hB (over_end s)
end Go.Proofs.YtafhgbokdfhapaaGreatDoor

/- Parts of the proof, put together from smaller texts (blanks that Lean does not want are struck). Conditions: those that each theorem writes out. -/
import Derived.Test.YthcmkpiajkbpnaaGreatDoorZ39
import Derived.Test.YthcmkpiajkbpnaaGreatDoorZ40
namespace Go.Proofs.YthcmkpiajkbpnaaGreatDoor
open Go.RowKit
theorem width_any (d c w0 E:Nat) (fo:Bool) (T:List UInt8) (C:Int) (s:ByteArray) (f:Nat) (n:Int) (hs:s.size≤100000) (hd9:d≤9) (hf1:1≤f) (hf:f≤s.size) (hB:f<s.size→RowB s f f)
  (hw:if d=0 then WZ s n w0 f else w0=d+min (max n 0).toNat (s.size+1)) (hZ:BZ s d c w0 fo T E C f [] 0 f true) :
  (C=5∧∀ W,Calls Tryz.prog 93 #[.string s,.int .i64 (f:Int),.int .i64 n,.int .i64 (d:Int)] W fun e w'=>e=.returned (.tuple #[.int .i64 0,.int .i64 (E:Int),.int .i64 5])∧Below W.heap.size W w') ∨
  (C=0∧∃ w1 R' L' h',w1≤s.size+10∧GZ s w1 R' L' h' E f [] 0 f∧T=bTxt c fo R' L' (lfs s E-lfs s h')∧∀ W,Calls Tryz.prog 93 #[.string s,.int .i64 (f:Int),.int .i64 n,.int .i64 (d:Int)] W fun e w'=>e=.returned (.tuple #[.int .i64 (w1:Int),.int .i64 0,.int .i64 0])∧Below W.heap.size W w'):=by
 have hs2:s.size≤1099511627776:=by omega
 by_cases hd:d=0
 ·subst hd
  rw[if_pos rfl] at hw
  obtain ⟨q,hq⟩:=FilN.ex s f hf
  have hq1:=hq.1
  rcases hw.fil hB hf q hq with ⟨hqs,hws⟩|⟨hqs,a,b,ff,i,hpa,hBa,hBq,hEa,hEq,hI,hF,hai,hqb,hwi⟩
  ·obtain ⟨hC,R',L',h',hG,hT⟩:=hZ.gz (.inr (.inr (by omega)))
   subst hws
   exact .inr ⟨hC,s.size,R',L',h',by omega,hG.clip hf1,hT,fun W=>width_all s f q n W hs2 hf hq (.inl hqs)⟩
  ·by_cases hc:n<(i:Int)∧kindN s a b ff≠3∧kindN s a b ff≠4
   ·rw[if_pos hc] at hwi
    subst hwi
    rcases hZ.split a b w0 rfl rfl (by omega) hpa (by omega) hBa hEa hI (by omega) (fun j k1 k2=>hq.2.2.1 j (by omega) k2) with ⟨x,hx,hE,hC⟩|⟨hx,hC,R',L',h',hG,hT⟩
    ·subst hE
     exact .inl ⟨hC,fun W=>width_row 0 (E:Int) 5 (some E) s f q a b ff w0 n W hs2 hpa hq hqs hBq hEq hF hai hc.1 hc.2.1 hc.2.2 hx (.inr ⟨E,rfl,rfl,rfl,rfl⟩)⟩
    ·exact .inr ⟨hC,w0,R',L',h',by omega,hG,hT,fun W=>width_row w0 0 0 none s f q a b ff w0 n W hs2 hpa hq hqs hBq hEq hF hai hc.1 hc.2.1 hc.2.2 hx (.inl ⟨rfl,rfl,rfl,rfl⟩)⟩
   ·rw[if_neg hc] at hwi
    obtain ⟨hC,R',L',h',hG,hT⟩:=hZ.gz (.inr (.inr (by omega)))
    subst hwi
    refine .inr ⟨hC,s.size,R',L',h',by omega,hG.clip hf1,hT,fun W=>width_all s f q n W hs2 hf hq (.inr ⟨hqs,a,b,ff,i,hBq,hBa,hEq,hF,hai,?_⟩)⟩
    by_cases h1:(i:Int)≤n
    ·exact .inl h1
    ·refine .inr (Classical.byContradiction fun h2=>hc ⟨by omega,fun h3=>h2 (.inl h3),fun h3=>h2 (.inr h3)⟩)
 ·rw[if_neg hd] at hw
  obtain ⟨hC,R',L',h',hG,hT⟩:=hZ.gz (.inr (.inl hd))
  exact .inr ⟨hC,w0,R',L',h',by omega,hG,hT,fun W=>width_digit d w0 s f n W hs2 (by omega) hd9 hw.symm⟩
set_option maxRecDepth 100000 in
set_option maxHeartbeats 6400000 in
theorem blocRead_hdr (q:Int) (R:ByteArray) (s:ByteArray) (a r0 t:Nat) (n:Int) (w:World) (hs:s.size≤100000) (ha:a<s.size) (hyc:byt s a=124∨byt s a=62) (hB:RowB s a r0) (hE:RowE s a t)
  (hR:s.extract 0 t=R) (CH:∀ W,Calls Tryz.prog 92 #[.string R,.int .i64 ((a:Int)+1)] W fun e w'=>e=.returned (.tuple #[.agg hdr0,.int .i64 q,.int .i64 5])∧Below W.heap.size W w') :
  Calls Tryz.prog 67 #[.string s,.int .i64 (a:Int),.int .i64 n] w fun e w'=>e=.returned (.tuple #[.agg zeroC,.int .i64 q,.int .i64 5])∧Below w.heap.size w w':=by
 have hs2:s.size≤1099511627776:=by omega
 have hck:=clampN_self a s.size (by omega)
 have CR:=fun W=>Row_is r0 t s (a:Int) W hs2 (by rw[hck];exact hB) (by rw[hck];exact hE)
 have hi:=run_byt s a ha (a:Int) rfl
 have ht1:=hE.1
 have ht2:=hE.2.1
 unfold hdr0 at CH
 clear hck hB hE
 rcases hyc with hy|hy
 ·rw[hy] at hi
  clear hy
  go_enter Tryz.func67,Tryz.ntmps67
  go_wp2_with fail
  refine (CR _).mono ?_
  rintro e w1 ⟨rfl,rfl⟩
  go_wp2_with fail
  refine (CH _).mono ?_
  rintro e w2 ⟨rfl,hb2⟩
  have hz2:w2.heap[w.heap.size]?=some (.cells zeroC 27 (0,0)):=(hb2.block _ (by simp)).trans (heap_alloc_new w _)
  have hbw2:Below w.heap.size w w2:=((Below.refl _ _).alloc (Nat.le_refl _) _).trans (hb2.mono (by simp))
  have hs3:w.heap.size+1≤w2.heap.size:=by have:=hb2.size;simp at this;omega
  obtain ⟨W3,hW3⟩:∃ W3,W3=w2.alloc (.cells #[.int .i64 0,.int .u8 0,.bool false,.string ⟨#[]⟩] 125):=⟨_,rfl⟩
  have hx3:W3.heap[w2.heap.size]?=some (.cells #[.int .i64 0,.int .u8 0,.bool false,.string ⟨#[]⟩] 125 (0,0)):=by rw[hW3];exact heap_alloc_new w2 _
  have hz3:W3.heap[w.heap.size]?=some (.cells zeroC 27 (0,0)):=by rw[hW3];exact (heap_alloc_old _ _ (by omega)).trans hz2
  have hbw3:Below w.heap.size w W3:=by rw[hW3];exact hbw2.alloc hbw2.size _
  have hsz3:W3.heap.size=w2.heap.size+1:=by rw[hW3];simp
  clear hb2 hz2 hbw2
  go_upto_region 5 with fail
  rw[←hW3]
  clear hW3
  have hcz:∀ j,W3.cell? ⟨w.heap.size,j,none⟩=zeroC[j]?:=fun j=>cell_of_row _ _ j _ _ _ hz3
  go_wp2_with (first|(refine wpList_buildTo rfl 27 #[] rfl (some 59) rfl zeroC (by kernel_rfl) ?_)|(refine wpList_store_row rfl 27 _ _ rfl w.heap.size zeroC rfl rfl 27 zeroC hz3 (by kernel_rfl) rfl (by kernel_rfl) ?_;rw[setRow_self _ _ _ _ _ hz3]))
  refine bodyPost_ret (v:=.tuple #[.agg zeroC,.int .i64 q,.int .i64 5]) (by simp[results,Tryz.results67,go_sem,hcz,zeroC]) rfl ?_
  exact ⟨rfl,hbw3⟩
 ·rw[hy] at hi
  clear hy
  go_enter Tryz.func67,Tryz.ntmps67
  go_wp2_with fail
  refine (CR _).mono ?_
  rintro e w1 ⟨rfl,rfl⟩
  go_wp2_with fail
  refine (CH _).mono ?_
  rintro e w2 ⟨rfl,hb2⟩
  have hz2:w2.heap[w.heap.size]?=some (.cells zeroC 27 (0,0)):=(hb2.block _ (by simp)).trans (heap_alloc_new w _)
  have hbw2:Below w.heap.size w w2:=((Below.refl _ _).alloc (Nat.le_refl _) _).trans (hb2.mono (by simp))
  have hs3:w.heap.size+1≤w2.heap.size:=by have:=hb2.size;simp at this;omega
  obtain ⟨W3,hW3⟩:∃ W3,W3=w2.alloc (.cells #[.int .i64 0,.int .u8 0,.bool false,.string ⟨#[]⟩] 125):=⟨_,rfl⟩
  have hx3:W3.heap[w2.heap.size]?=some (.cells #[.int .i64 0,.int .u8 0,.bool false,.string ⟨#[]⟩] 125 (0,0)):=by rw[hW3];exact heap_alloc_new w2 _
  have hz3:W3.heap[w.heap.size]?=some (.cells zeroC 27 (0,0)):=by rw[hW3];exact (heap_alloc_old _ _ (by omega)).trans hz2
  have hbw3:Below w.heap.size w W3:=by rw[hW3];exact hbw2.alloc hbw2.size _
  have hsz3:W3.heap.size=w2.heap.size+1:=by rw[hW3];simp
  clear hb2 hz2 hbw2
  go_upto_region 5 with fail
  rw[←hW3]
  clear hW3
  have hcz:∀ j,W3.cell? ⟨w.heap.size,j,none⟩=zeroC[j]?:=fun j=>cell_of_row _ _ j _ _ _ hz3
  go_wp2_with (first|(refine wpList_buildTo rfl 27 #[] rfl (some 59) rfl zeroC (by kernel_rfl) ?_)|(refine wpList_store_row rfl 27 _ _ rfl w.heap.size zeroC rfl rfl 27 zeroC hz3 (by kernel_rfl) rfl (by kernel_rfl) ?_;rw[setRow_self _ _ _ _ _ hz3]))
  refine bodyPost_ret (v:=.tuple #[.agg zeroC,.int .i64 q,.int .i64 5]) (by simp[results,Tryz.results67,go_sem,hcz,zeroC]) rfl ?_
  exact ⟨rfl,hbw3⟩
set_option maxRecDepth 100000 in
set_option maxHeartbeats 6400000 in
theorem blocRead_far (E:Int) (d c f:Nat) (h:Bool) (NB R:ByteArray) (s:ByteArray) (a r0 t:Nat) (n:Int) (w:World) (hs:s.size≤100000) (ha:a<s.size) (hyc:byt s a=124∨byt s a=62) (hB:RowB s a r0) (hE:RowE s a t)
  (hR:s.extract 0 t=R) (CH:∀ W,Calls Tryz.prog 92 #[.string R,.int .i64 ((a:Int)+1)] W fun e w'=>e=.returned (.tuple #[.agg #[.int .i64 (d:Int),.int .u8 (c:Int),.bool h,.string NB],.int .i64 0,.int .i64 0])∧Below W.heap.size W w')
  (hf:min (t+1) s.size=f) (CW:∀ W,Calls Tryz.prog 93 #[.string s,.int .i64 (f:Int),.int .i64 n,.int .i64 (d:Int)] W fun e w'=>e=.returned (.tuple #[.int .i64 0,.int .i64 E,.int .i64 5])∧Below W.heap.size W w') :
  Calls Tryz.prog 67 #[.string s,.int .i64 (a:Int),.int .i64 n] w fun e w'=>e=.returned (.tuple #[.agg zeroC,.int .i64 E,.int .i64 5])∧Below w.heap.size w w':=by
 have hs2:s.size≤1099511627776:=by omega
 have hck:=clampN_self a s.size (by omega)
 have CR:=fun W=>Row_is r0 t s (a:Int) W hs2 (by rw[hck];exact hB) (by rw[hck];exact hE)
 have hi:=run_byt s a ha (a:Int) rfl
 have ht1:=hE.1
 have ht2:=hE.2.1
 have hfi:min ((t:Int)+1) (s.size:Int)=(f:Int):=by omega
 clear hck hB hE
 rcases hyc with hy|hy
 ·rw[hy] at hi
  clear hy
  go_enter Tryz.func67,Tryz.ntmps67
  go_wp2_with fail
  refine (CR _).mono ?_
  rintro e w1 ⟨rfl,rfl⟩
  go_wp2_with fail
  refine (CH _).mono ?_
  rintro e w2 ⟨rfl,hb2⟩
  have hz2:w2.heap[w.heap.size]?=some (.cells zeroC 27 (0,0)):=(hb2.block _ (by simp)).trans (heap_alloc_new w _)
  have hbw2:Below w.heap.size w w2:=((Below.refl _ _).alloc (Nat.le_refl _) _).trans (hb2.mono (by simp))
  have hs3:w.heap.size+1≤w2.heap.size:=by have:=hb2.size;simp at this;omega
  obtain ⟨W3,hW3⟩:∃ W3,W3=w2.alloc (.cells #[.int .i64 (d:Int),.int .u8 (c:Int),.bool h,.string NB] 125):=⟨_,rfl⟩
  have hx3:W3.heap[w2.heap.size]?=some (.cells #[.int .i64 (d:Int),.int .u8 (c:Int),.bool h,.string NB] 125 (0,0)):=by rw[hW3];exact heap_alloc_new w2 _
  have hz3:W3.heap[w.heap.size]?=some (.cells zeroC 27 (0,0)):=by rw[hW3];exact (heap_alloc_old _ _ (by omega)).trans hz2
  have hbw3:Below w.heap.size w W3:=by rw[hW3];exact hbw2.alloc hbw2.size _
  have hsz3:W3.heap.size=w2.heap.size+1:=by rw[hW3];simp
  clear hb2 hz2 hbw2
  go_upto_region 5 with fail
  rw[←hW3]
  clear hW3
  have c30:W3.cell? ⟨w2.heap.size,0,none⟩=some (.int .i64 (d:Int)):=by rw[cell_of_row W3 _ 0 _ _ _ hx3];rfl
  go_wp2_with fail
  refine (CW _).mono ?_
  rintro e w4 ⟨rfl,hb4⟩
  have hz4:w4.heap[w.heap.size]?=some (.cells zeroC 27 (0,0)):=(hb4.block _ (by omega)).trans hz3
  have hx4:w4.heap[w2.heap.size]?=some (.cells #[.int .i64 (d:Int),.int .u8 (c:Int),.bool h,.string NB] 125 (0,0)):=(hb4.block _ (by omega)).trans hx3
  have hbw4:Below w.heap.size w w4:=hbw3.trans (hb4.mono hbw3.size)
  have hsz4:W3.heap.size≤w4.heap.size:=hb4.size
  clear hb4 hz3 hx3 hbw3 c30
  have hcz:∀ j,w4.cell? ⟨w.heap.size,j,none⟩=zeroC[j]?:=fun j=>cell_of_row _ _ j _ _ _ hz4
  go_wp2_with (first|(refine wpList_buildTo rfl 27 #[] rfl (some 79) rfl zeroC (by kernel_rfl) ?_)|(refine wpList_store_row rfl 27 _ _ rfl w.heap.size zeroC rfl rfl 27 zeroC hz4 (by kernel_rfl) rfl (by kernel_rfl) ?_;rw[setRow_self _ _ _ _ _ hz4]))
  refine bodyPost_ret (v:=.tuple #[.agg zeroC,.int .i64 E,.int .i64 5]) (by simp[results,Tryz.results67,go_sem,hcz,zeroC]) rfl ?_
  exact ⟨rfl,hbw4⟩
 ·rw[hy] at hi
  clear hy
  go_enter Tryz.func67,Tryz.ntmps67
  go_wp2_with fail
  refine (CR _).mono ?_
  rintro e w1 ⟨rfl,rfl⟩
  go_wp2_with fail
  refine (CH _).mono ?_
  rintro e w2 ⟨rfl,hb2⟩
  have hz2:w2.heap[w.heap.size]?=some (.cells zeroC 27 (0,0)):=(hb2.block _ (by simp)).trans (heap_alloc_new w _)
  have hbw2:Below w.heap.size w w2:=((Below.refl _ _).alloc (Nat.le_refl _) _).trans (hb2.mono (by simp))
  have hs3:w.heap.size+1≤w2.heap.size:=by have:=hb2.size;simp at this;omega
  obtain ⟨W3,hW3⟩:∃ W3,W3=w2.alloc (.cells #[.int .i64 (d:Int),.int .u8 (c:Int),.bool h,.string NB] 125):=⟨_,rfl⟩
  have hx3:W3.heap[w2.heap.size]?=some (.cells #[.int .i64 (d:Int),.int .u8 (c:Int),.bool h,.string NB] 125 (0,0)):=by rw[hW3];exact heap_alloc_new w2 _
  have hz3:W3.heap[w.heap.size]?=some (.cells zeroC 27 (0,0)):=by rw[hW3];exact (heap_alloc_old _ _ (by omega)).trans hz2
  have hbw3:Below w.heap.size w W3:=by rw[hW3];exact hbw2.alloc hbw2.size _
  have hsz3:W3.heap.size=w2.heap.size+1:=by rw[hW3];simp
  clear hb2 hz2 hbw2
  go_upto_region 5 with fail
  rw[←hW3]
  clear hW3
  have c30:W3.cell? ⟨w2.heap.size,0,none⟩=some (.int .i64 (d:Int)):=by rw[cell_of_row W3 _ 0 _ _ _ hx3];rfl
  go_wp2_with fail
  refine (CW _).mono ?_
  rintro e w4 ⟨rfl,hb4⟩
  have hz4:w4.heap[w.heap.size]?=some (.cells zeroC 27 (0,0)):=(hb4.block _ (by omega)).trans hz3
  have hx4:w4.heap[w2.heap.size]?=some (.cells #[.int .i64 (d:Int),.int .u8 (c:Int),.bool h,.string NB] 125 (0,0)):=(hb4.block _ (by omega)).trans hx3
  have hbw4:Below w.heap.size w w4:=hbw3.trans (hb4.mono hbw3.size)
  have hsz4:W3.heap.size≤w4.heap.size:=hb4.size
  clear hb4 hz3 hx3 hbw3 c30
  have hcz:∀ j,w4.cell? ⟨w.heap.size,j,none⟩=zeroC[j]?:=fun j=>cell_of_row _ _ j _ _ _ hz4
  go_wp2_with (first|(refine wpList_buildTo rfl 27 #[] rfl (some 79) rfl zeroC (by kernel_rfl) ?_)|(refine wpList_store_row rfl 27 _ _ rfl w.heap.size zeroC rfl rfl 27 zeroC hz4 (by kernel_rfl) rfl (by kernel_rfl) ?_;rw[setRow_self _ _ _ _ _ hz4]))
  refine bodyPost_ret (v:=.tuple #[.agg zeroC,.int .i64 E,.int .i64 5]) (by simp[results,Tryz.results67,go_sem,hcz,zeroC]) rfl ?_
  exact ⟨rfl,hbw4⟩
set_option maxRecDepth 100000 in
set_option maxHeartbeats 6400000 in
theorem blocRead_good (st:Int) (fo:Bool) (w0 E f d c:Nat) (R2:List (List UInt8)) (L2 h2:Nat) (h:Bool) (NB R:ByteArray) (s:ByteArray) (a r0 t:Nat) (n:Int) (w:World) (hs:s.size≤100000) (ha:a<s.size) (hB:RowB s a r0) (hE:RowE s a t)
  (hR:s.extract 0 t=R) (CH:∀ W,Calls Tryz.prog 92 #[.string R,.int .i64 ((a:Int)+1)] W fun e w'=>e=.returned (.tuple #[.agg #[.int .i64 (d:Int),.int .u8 (c:Int),.bool h,.string NB],.int .i64 0,.int .i64 0])∧Below W.heap.size W w')
  (hf:min (t+1) s.size=f) (CW:∀ W,Calls Tryz.prog 93 #[.string s,.int .i64 (f:Int),.int .i64 n,.int .i64 (d:Int)] W fun e w'=>e=.returned (.tuple #[.int .i64 (w0:Int),.int .i64 0,.int .i64 0])∧Below W.heap.size W w')
  (hw0:w0≤s.size+10) (hG:GZ s w0 R2 L2 h2 E f [] 0 f) (hBf:f<s.size→RowB s f f) (hc:c=0∨c=43∨c=45) (hst:(byt s a=124∧st=4∧fo=false)∨(byt s a=62∧st=5∧fo=true)) :
  Calls Tryz.prog 67 #[.string s,.int .i64 (a:Int),.int .i64 n] w fun e w'=>e=.returned (.tuple #[.agg (nodeL 1 st (a:Int) ⟨(bTxt c fo R2 L2 (lfs s E-lfs s h2)).toArray⟩ h NB),.int .i64 (E:Int),.int .i64 0])∧Below w.heap.size w w':=by
 have hs2:s.size≤1099511627776:=by omega
 have hck:=clampN_self a s.size (by omega)
 have CR:=fun W=>Row_is r0 t s (a:Int) W hs2 (by rw[hck];exact hB) (by rw[hck];exact hE)
 have hi:=run_byt s a ha (a:Int) rfl
 have ht1:=hE.1
 have ht2:=hE.2.1
 have hfi:min ((t:Int)+1) (s.size:Int)=(f:Int):=by omega
 have hfl:f≤s.size:=by omega
 obtain ⟨_,hE2,hfE,hTot,hCnt,hLh,hfh,hhE⟩:=hG.facts (GI.begin hfl)
 have CG:=fun W=>gather_is w0 R2 L2 h2 E s f W hs hfl hw0 hBf hG
 have hm1:=lfs_mono (s:=s) (a:=h2) E hhE
 have hm2:=lfs_mono (s:=s) (a:=f) E hfE
 have hm3:=lfs_count (s:=s) (a:=f) E hfE hE2
 have hm4:lfs s E-lfs s f≤100000:=by
  rw[←hm3]
  refine Nat.le_trans List.count_le_length ?_
  rw[piece_len hE2]
  omega
 obtain ⟨m,hm⟩:∃ m,lfs s E-lfs s h2=m:=⟨_,rfl⟩
 obtain ⟨z,hz⟩:∃ z,lfs s E-lfs s f=z:=⟨_,rfl⟩
 rw[hz] at hm3 hm4
 have hzm:(z:Int)=(m:Int)+((L2-1:Nat):Int):=by
  rcases hLh with ⟨g1,g2⟩|⟨g1,g2⟩
  ·subst g1 g2
   omega
  ·omega
 have hml:m≤1000000:=by omega
 have CC:=fun W=>Tryz.strings_Count_one (s.extract f E) 10 W
 have hct:Lib.countByte (s.extract f E).data.toList 10=z:=by rw[piece_ext,mkl_data];exact hm3
 rw[hct] at CC
 have hTot2:U.tot R2≤1000000:=by omega
 obtain ⟨Tx,hTx⟩:∃ Tx:Bool→ByteArray,∀ b:Bool,(⟨(bTxt c b R2 L2 m).toArray⟩:ByteArray)=Tx b:=⟨_,fun _=>rfl⟩
 have CJ:=fun (fo:Bool) (B0:Nat) (v:Value) (W:World) (ho:OutT B0 W v R2)=>join_is (z:Int) c fo R2 L2 m B0 v W ho hTot2 hCnt hc hml hzm
 simp only[hTx] at CJ
 have HTX:=Lib.hid hTx
 rw[hm]
 clear hck hB hE hG hBf hCnt hLh hm1 hm2 hm3 hct hm hz hc hTx hzm hw0
 have CJH:=Lib.hid CJ
 clear CJ
 rcases hst with ⟨hy,rfl,rfl⟩|⟨hy,rfl,rfl⟩
 ·rw[hy] at hi
  clear hy
  go_enter Tryz.func67,Tryz.ntmps67
  go_wp2_with fail
  refine (CR _).mono ?_
  rintro e w1 ⟨rfl,rfl⟩
  go_wp2_with fail
  refine (CH _).mono ?_
  rintro e w2 ⟨rfl,hb2⟩
  have hz2:w2.heap[w.heap.size]?=some (.cells zeroC 27 (0,0)):=(hb2.block _ (by simp)).trans (heap_alloc_new w _)
  have hbw2:Below w.heap.size w w2:=((Below.refl _ _).alloc (Nat.le_refl _) _).trans (hb2.mono (by simp))
  have hs3:w.heap.size+1≤w2.heap.size:=by have:=hb2.size;simp at this;omega
  obtain ⟨W3,hW3⟩:∃ W3,W3=w2.alloc (.cells #[.int .i64 (d:Int),.int .u8 (c:Int),.bool h,.string NB] 125):=⟨_,rfl⟩
  have hx3:W3.heap[w2.heap.size]?=some (.cells #[.int .i64 (d:Int),.int .u8 (c:Int),.bool h,.string NB] 125 (0,0)):=by rw[hW3];exact heap_alloc_new w2 _
  have hz3:W3.heap[w.heap.size]?=some (.cells zeroC 27 (0,0)):=by rw[hW3];exact (heap_alloc_old _ _ (by omega)).trans hz2
  have hbw3:Below w.heap.size w W3:=by rw[hW3];exact hbw2.alloc hbw2.size _
  have hsz3:W3.heap.size=w2.heap.size+1:=by rw[hW3];simp
  clear hb2 hz2 hbw2
  go_upto_region 5 with fail
  rw[←hW3]
  clear hW3
  have c30:W3.cell? ⟨w2.heap.size,0,none⟩=some (.int .i64 (d:Int)):=by rw[cell_of_row W3 _ 0 _ _ _ hx3];rfl
  go_wp2_with fail
  refine (CW _).mono ?_
  rintro e w4 ⟨rfl,hb4⟩
  have hz4:w4.heap[w.heap.size]?=some (.cells zeroC 27 (0,0)):=(hb4.block _ (by omega)).trans hz3
  have hx4:w4.heap[w2.heap.size]?=some (.cells #[.int .i64 (d:Int),.int .u8 (c:Int),.bool h,.string NB] 125 (0,0)):=(hb4.block _ (by omega)).trans hx3
  have hbw4:Below w.heap.size w w4:=hbw3.trans (hb4.mono hbw3.size)
  have hsz4:W3.heap.size≤w4.heap.size:=hb4.size
  clear hb4 hz3 hx3 hbw3 c30
  go_wp2_with fail
  refine (CG _).mono ?_
  rintro e w5 ⟨v5,rfl,ho5,hb5⟩
  have hz5:w5.heap[w.heap.size]?=some (.cells zeroC 27 (0,0)):=(hb5.block _ (by omega)).trans hz4
  have hx5:w5.heap[w2.heap.size]?=some (.cells #[.int .i64 (d:Int),.int .u8 (c:Int),.bool h,.string NB] 125 (0,0)):=(hb5.block _ (by omega)).trans hx4
  have hbw5:Below w.heap.size w w5:=hbw4.trans (hb5.mono hbw4.size)
  have hsz5:w4.heap.size≤w5.heap.size:=hb5.size
  have c52:w5.cell? ⟨w2.heap.size,2,none⟩=some (.bool h):=by rw[cell_of_row w5 _ 2 _ _ _ hx5];rfl
  have c53:w5.cell? ⟨w2.heap.size,3,none⟩=some (.string NB):=by rw[cell_of_row w5 _ 3 _ _ _ hx5];rfl
  obtain ⟨W6,hW6⟩:∃ W6,W6=w5.alloc (.cells #[.int .i64 1,.int .i64 4,.int .i64 (a:Int),.int .i64 0,.string ⟨#[]⟩,.string ⟨#[]⟩,.string ⟨#[]⟩,.slice none 0 0,.slice none 0 0,.slice none 0 0,.bool h,.string NB] 27):=⟨_,rfl⟩
  have hn6:W6.heap[w5.heap.size]?=some (.cells (nodeC 4 (a:Int) h NB ⟨#[]⟩) 27 (0,0)):=by rw[hW6];exact heap_alloc_new w5 _
  have hz6:W6.heap[w.heap.size]?=some (.cells zeroC 27 (0,0)):=by rw[hW6];exact (heap_alloc_old _ _ (by omega)).trans hz5
  have hx6:W6.heap[w2.heap.size]?=some (.cells #[.int .i64 (d:Int),.int .u8 (c:Int),.bool h,.string NB] 125 (0,0)):=by rw[hW6];exact (heap_alloc_old _ _ (by omega)).trans hx5
  have hb6:Below w5.heap.size w5 W6:=by rw[hW6];exact (Below.refl _ _).alloc (Nat.le_refl _) _
  have hsz6:W6.heap.size=w5.heap.size+1:=by rw[hW6];simp
  clear hb5 hz4 hx4 hbw4 hz5 hx5
  go_upto_region 13 with fail
  rw[←hW6]
  clear hW6 c52 c53
  obtain ⟨W7,hW7⟩:∃ W7,W7=W6:=⟨_,rfl⟩
  rw[←hW7] at hn6 hz6 hx6 hb6 hsz6 ⊢
  have hn7:=hn6
  have hz7:=hz6
  have hx7:=hx6
  have hb7:=hb6
  have hsz7:=hsz6
  clear hW7 hn6 hz6 hx6 hb6
  go_upto_region 15 with fail
  have c71:W7.cell? ⟨w2.heap.size,1,none⟩=some (.int .u8 (c:Int)):=by rw[cell_of_row W7 _ 1 _ _ _ hx7];rfl
  have n71:W7.cell? ⟨w5.heap.size,1,none⟩=some (.int .i64 4):=by rw[cell_of_row W7 _ 1 _ _ _ hn7];rfl
  have ho7:OutT w4.heap.size W7 v5 R2:=ho5.below hb7
  have CJ7:=CJH.out false w4.heap.size v5 W7 ho7
  clear ho5 ho7
  go_wp2_with fail
  refine (CC _).mono ?_
  rintro e w8 ⟨rfl,rfl⟩
  go_wp2_with fail
  refine CJ7.mono ?_
  rintro e w9 ⟨rfl,hb9⟩
  have hn9:w9.heap[w5.heap.size]?=some (.cells (nodeC 4 (a:Int) h NB ⟨#[]⟩) 27 (0,0)):=(hb9.block _ (by omega)).trans hn7
  have hz9:w9.heap[w.heap.size]?=some (.cells zeroC 27 (0,0)):=(hb9.block _ (by omega)).trans hz7
  have hbw9:Below w.heap.size w w9:=(hbw5.trans (hb7.mono hbw5.size)).trans (hb9.mono (by omega))
  have c96:w9.cell? ⟨w5.heap.size,6,none⟩=some (.string ⟨#[]⟩):=by rw[cell_of_row w9 _ 6 _ _ _ hn9];rfl
  have z96:w9.frozen? ⟨w5.heap.size,6,none⟩=false:=frozen_of_row w9 _ 6 _ _ hn9
  obtain ⟨W10,hW10⟩:∃ W10,W10=w9.setCell ⟨w5.heap.size,6,none⟩ (.string (Tx false)):=⟨_,rfl⟩
  have hn10:W10.heap[w5.heap.size]?=some (.cells (nodeC 4 (a:Int) h NB (Tx false)) 27 (0,0)):=by rw[hW10];exact heap_setCell_same w9 w5.heap.size 6 _ _ _ hn9
  have hz10:W10.heap[w.heap.size]?=some (.cells zeroC 27 (0,0)):=by rw[hW10];exact (heap_setCell_other w9 ⟨w5.heap.size,6,none⟩ w.heap.size _ (by show w.heap.size≠w5.heap.size;omega)).trans hz9
  have hbw10:Below w.heap.size w W10:=by rw[hW10];exact hbw9.setCell (by show w.heap.size≤w5.heap.size;omega) _
  go_upto_region 17 with fail
  rw[←hW10]
  clear hW10 c96 z96 hn9 hz9 hbw9 hb9 c71 n71 hn7 hz7 hx7 hb7
  have hcx:∀ j,W10.cell? ⟨w5.heap.size,j,none⟩=(#[.int .i64 1,.int .i64 4,.int .i64 (a:Int),.int .i64 0,.string ⟨#[]⟩,.string ⟨#[]⟩,.string (Tx false),.slice none 0 0,.slice none 0 0,.slice none 0 0,.bool h,.string NB]:Array Value)[j]?:=fun j=>cell_of_row W10 _ j _ _ _ hn10
  have hcz:∀ j,(W10.setRow w.heap.size (nodeC 4 (a:Int) h NB (Tx false))).cell? ⟨w.heap.size,j,none⟩=(nodeC 4 (a:Int) h NB (Tx false))[j]?:=fun j=>cell_of_row _ _ j _ _ _ (setRow_heap W10 w.heap.size zeroC _ _ _ hz10)
  have hbr:Below w.heap.size w (W10.setRow w.heap.size (nodeC 4 (a:Int) h NB (Tx false))):=hbw10.trans ⟨rfl,rfl,rfl,by simp[World.setRow],fun k hk=>setRow_other W10 _ k _ (by omega)⟩
  go_wp2_with (refine wpList_store_row rfl 27 _ _ rfl w.heap.size (nodeC 4 (a:Int) h NB (Tx false)) rfl rfl 27 zeroC hz10 (by kernel_rfl) rfl (by kernel_rfl) ?_)
  obtain ⟨W11,hW11⟩:∃ W11,W11=W10.setRow w.heap.size (nodeC 4 (a:Int) h NB (Tx false)):=⟨_,rfl⟩
  rw[←hW11] at hcz hbr ⊢
  clear hW11
  refine bodyPost_ret (v:=.tuple #[.agg (nodeC 4 (a:Int) h NB (Tx false)),.int .i64 (E:Int),.int .i64 0]) (by simp[results,Tryz.results67,go_sem,hcz,nodeC]) rfl ?_
  exact ⟨by rw[←HTX.out];rfl,hbr⟩
 ·rw[hy] at hi
  clear hy
  go_enter Tryz.func67,Tryz.ntmps67
  go_wp2_with fail
  refine (CR _).mono ?_
  rintro e w1 ⟨rfl,rfl⟩
  go_wp2_with fail
  refine (CH _).mono ?_
  rintro e w2 ⟨rfl,hb2⟩
  have hz2:w2.heap[w.heap.size]?=some (.cells zeroC 27 (0,0)):=(hb2.block _ (by simp)).trans (heap_alloc_new w _)
  have hbw2:Below w.heap.size w w2:=((Below.refl _ _).alloc (Nat.le_refl _) _).trans (hb2.mono (by simp))
  have hs3:w.heap.size+1≤w2.heap.size:=by have:=hb2.size;simp at this;omega
  obtain ⟨W3,hW3⟩:∃ W3,W3=w2.alloc (.cells #[.int .i64 (d:Int),.int .u8 (c:Int),.bool h,.string NB] 125):=⟨_,rfl⟩
  have hx3:W3.heap[w2.heap.size]?=some (.cells #[.int .i64 (d:Int),.int .u8 (c:Int),.bool h,.string NB] 125 (0,0)):=by rw[hW3];exact heap_alloc_new w2 _
  have hz3:W3.heap[w.heap.size]?=some (.cells zeroC 27 (0,0)):=by rw[hW3];exact (heap_alloc_old _ _ (by omega)).trans hz2
  have hbw3:Below w.heap.size w W3:=by rw[hW3];exact hbw2.alloc hbw2.size _
  have hsz3:W3.heap.size=w2.heap.size+1:=by rw[hW3];simp
  clear hb2 hz2 hbw2
  go_upto_region 5 with fail
  rw[←hW3]
  clear hW3
  have c30:W3.cell? ⟨w2.heap.size,0,none⟩=some (.int .i64 (d:Int)):=by rw[cell_of_row W3 _ 0 _ _ _ hx3];rfl
  go_wp2_with fail
  refine (CW _).mono ?_
  rintro e w4 ⟨rfl,hb4⟩
  have hz4:w4.heap[w.heap.size]?=some (.cells zeroC 27 (0,0)):=(hb4.block _ (by omega)).trans hz3
  have hx4:w4.heap[w2.heap.size]?=some (.cells #[.int .i64 (d:Int),.int .u8 (c:Int),.bool h,.string NB] 125 (0,0)):=(hb4.block _ (by omega)).trans hx3
  have hbw4:Below w.heap.size w w4:=hbw3.trans (hb4.mono hbw3.size)
  have hsz4:W3.heap.size≤w4.heap.size:=hb4.size
  clear hb4 hz3 hx3 hbw3 c30
  go_wp2_with fail
  refine (CG _).mono ?_
  rintro e w5 ⟨v5,rfl,ho5,hb5⟩
  have hz5:w5.heap[w.heap.size]?=some (.cells zeroC 27 (0,0)):=(hb5.block _ (by omega)).trans hz4
  have hx5:w5.heap[w2.heap.size]?=some (.cells #[.int .i64 (d:Int),.int .u8 (c:Int),.bool h,.string NB] 125 (0,0)):=(hb5.block _ (by omega)).trans hx4
  have hbw5:Below w.heap.size w w5:=hbw4.trans (hb5.mono hbw4.size)
  have hsz5:w4.heap.size≤w5.heap.size:=hb5.size
  have c52:w5.cell? ⟨w2.heap.size,2,none⟩=some (.bool h):=by rw[cell_of_row w5 _ 2 _ _ _ hx5];rfl
  have c53:w5.cell? ⟨w2.heap.size,3,none⟩=some (.string NB):=by rw[cell_of_row w5 _ 3 _ _ _ hx5];rfl
  obtain ⟨W6,hW6⟩:∃ W6,W6=w5.alloc (.cells #[.int .i64 1,.int .i64 4,.int .i64 (a:Int),.int .i64 0,.string ⟨#[]⟩,.string ⟨#[]⟩,.string ⟨#[]⟩,.slice none 0 0,.slice none 0 0,.slice none 0 0,.bool h,.string NB] 27):=⟨_,rfl⟩
  have hn6:W6.heap[w5.heap.size]?=some (.cells (nodeC 4 (a:Int) h NB ⟨#[]⟩) 27 (0,0)):=by rw[hW6];exact heap_alloc_new w5 _
  have hz6:W6.heap[w.heap.size]?=some (.cells zeroC 27 (0,0)):=by rw[hW6];exact (heap_alloc_old _ _ (by omega)).trans hz5
  have hx6:W6.heap[w2.heap.size]?=some (.cells #[.int .i64 (d:Int),.int .u8 (c:Int),.bool h,.string NB] 125 (0,0)):=by rw[hW6];exact (heap_alloc_old _ _ (by omega)).trans hx5
  have hb6:Below w5.heap.size w5 W6:=by rw[hW6];exact (Below.refl _ _).alloc (Nat.le_refl _) _
  have hsz6:W6.heap.size=w5.heap.size+1:=by rw[hW6];simp
  clear hb5 hz4 hx4 hbw4 hz5 hx5
  go_upto_region 13 with fail
  rw[←hW6]
  clear hW6 c52 c53
  have c61:W6.cell? ⟨w5.heap.size,1,none⟩=some (.int .i64 4):=by rw[cell_of_row W6 _ 1 _ _ _ hn6];rfl
  have z61:W6.frozen? ⟨w5.heap.size,1,none⟩=false:=frozen_of_row W6 _ 1 _ _ hn6
  obtain ⟨W7,hW7⟩:∃ W7,W7=W6.setCell ⟨w5.heap.size,1,none⟩ (.int .i64 5):=⟨_,rfl⟩
  have hn7:W7.heap[w5.heap.size]?=some (.cells (nodeC 5 (a:Int) h NB ⟨#[]⟩) 27 (0,0)):=by rw[hW7];exact heap_setCell_same W6 w5.heap.size 1 _ _ _ hn6
  have hz7:W7.heap[w.heap.size]?=some (.cells zeroC 27 (0,0)):=by rw[hW7];exact (heap_setCell_other W6 ⟨w5.heap.size,1,none⟩ w.heap.size _ (by show w.heap.size≠w5.heap.size;omega)).trans hz6
  have hx7:W7.heap[w2.heap.size]?=some (.cells #[.int .i64 (d:Int),.int .u8 (c:Int),.bool h,.string NB] 125 (0,0)):=by rw[hW7];exact (heap_setCell_other W6 ⟨w5.heap.size,1,none⟩ w2.heap.size _ (by show w2.heap.size≠w5.heap.size;omega)).trans hx6
  have hb7:Below w5.heap.size w5 W7:=by rw[hW7];exact hb6.setCell (by show w5.heap.size≤w5.heap.size;omega) _
  have hsz7:W7.heap.size=w5.heap.size+1:=by rw[hW7];simp[World.setCell];exact hsz6
  go_upto_region 15 with fail
  rw[←hW7]
  clear hW7 c61 z61 hn6 hz6 hx6 hb6
  have c71:W7.cell? ⟨w2.heap.size,1,none⟩=some (.int .u8 (c:Int)):=by rw[cell_of_row W7 _ 1 _ _ _ hx7];rfl
  have n71:W7.cell? ⟨w5.heap.size,1,none⟩=some (.int .i64 5):=by rw[cell_of_row W7 _ 1 _ _ _ hn7];rfl
  have ho7:OutT w4.heap.size W7 v5 R2:=ho5.below hb7
  have CJ7:=CJH.out true w4.heap.size v5 W7 ho7
  clear ho5 ho7
  go_wp2_with fail
  refine (CC _).mono ?_
  rintro e w8 ⟨rfl,rfl⟩
  go_wp2_with fail
  refine CJ7.mono ?_
  rintro e w9 ⟨rfl,hb9⟩
  have hn9:w9.heap[w5.heap.size]?=some (.cells (nodeC 5 (a:Int) h NB ⟨#[]⟩) 27 (0,0)):=(hb9.block _ (by omega)).trans hn7
  have hz9:w9.heap[w.heap.size]?=some (.cells zeroC 27 (0,0)):=(hb9.block _ (by omega)).trans hz7
  have hbw9:Below w.heap.size w w9:=(hbw5.trans (hb7.mono hbw5.size)).trans (hb9.mono (by omega))
  have c96:w9.cell? ⟨w5.heap.size,6,none⟩=some (.string ⟨#[]⟩):=by rw[cell_of_row w9 _ 6 _ _ _ hn9];rfl
  have z96:w9.frozen? ⟨w5.heap.size,6,none⟩=false:=frozen_of_row w9 _ 6 _ _ hn9
  obtain ⟨W10,hW10⟩:∃ W10,W10=w9.setCell ⟨w5.heap.size,6,none⟩ (.string (Tx true)):=⟨_,rfl⟩
  have hn10:W10.heap[w5.heap.size]?=some (.cells (nodeC 5 (a:Int) h NB (Tx true)) 27 (0,0)):=by rw[hW10];exact heap_setCell_same w9 w5.heap.size 6 _ _ _ hn9
  have hz10:W10.heap[w.heap.size]?=some (.cells zeroC 27 (0,0)):=by rw[hW10];exact (heap_setCell_other w9 ⟨w5.heap.size,6,none⟩ w.heap.size _ (by show w.heap.size≠w5.heap.size;omega)).trans hz9
  have hbw10:Below w.heap.size w W10:=by rw[hW10];exact hbw9.setCell (by show w.heap.size≤w5.heap.size;omega) _
  go_upto_region 17 with fail
  rw[←hW10]
  clear hW10 c96 z96 hn9 hz9 hbw9 hb9 c71 n71 hn7 hz7 hx7 hb7
  have hcx:∀ j,W10.cell? ⟨w5.heap.size,j,none⟩=(#[.int .i64 1,.int .i64 5,.int .i64 (a:Int),.int .i64 0,.string ⟨#[]⟩,.string ⟨#[]⟩,.string (Tx true),.slice none 0 0,.slice none 0 0,.slice none 0 0,.bool h,.string NB]:Array Value)[j]?:=fun j=>cell_of_row W10 _ j _ _ _ hn10
  have hcz:∀ j,(W10.setRow w.heap.size (nodeC 5 (a:Int) h NB (Tx true))).cell? ⟨w.heap.size,j,none⟩=(nodeC 5 (a:Int) h NB (Tx true))[j]?:=fun j=>cell_of_row _ _ j _ _ _ (setRow_heap W10 w.heap.size zeroC _ _ _ hz10)
  have hbr:Below w.heap.size w (W10.setRow w.heap.size (nodeC 5 (a:Int) h NB (Tx true))):=hbw10.trans ⟨rfl,rfl,rfl,by simp[World.setRow],fun k hk=>setRow_other W10 _ k _ (by omega)⟩
  go_wp2_with (refine wpList_store_row rfl 27 _ _ rfl w.heap.size (nodeC 5 (a:Int) h NB (Tx true)) rfl rfl 27 zeroC hz10 (by kernel_rfl) rfl (by kernel_rfl) ?_)
  obtain ⟨W11,hW11⟩:∃ W11,W11=W10.setRow w.heap.size (nodeC 5 (a:Int) h NB (Tx true)):=⟨_,rfl⟩
  rw[←hW11] at hcz hbr ⊢
  clear hW11
  refine bodyPost_ret (v:=.tuple #[.agg (nodeC 5 (a:Int) h NB (Tx true)),.int .i64 (E:Int),.int .i64 0]) (by simp[results,Tryz.results67,go_sem,hcz,nodeC]) rfl ?_
  exact ⟨by rw[←HTX.out];rfl,hbr⟩
set_option maxRecDepth 100000 in
set_option maxHeartbeats 3200000 in
theorem blocRead_no (s:ByteArray) (at' n:Int) (w:World) (_hs:s.size≤100000) (h:blocB s at'=false) :
  Calls Tryz.prog 67 #[.string s,.int .i64 at',.int .i64 n] w fun e w'=>e=.returned (.tuple #[.agg zeroC,.int .i64 at',.int .i64 5])∧Below w.heap.size w w':=by
 unfold blocB at h
 rw[decide_eq_false_iff_not] at h
 by_cases h0:at'<0
 ·clear h
  go_enter Tryz.func67,Tryz.ntmps67
  go_wp2
  refine bodyPost_ret (v:=.tuple #[.agg zeroC,.int .i64 at',.int .i64 5]) (by simp[results,Tryz.results67,go_sem,zeroC]) rfl ?_
  exact ⟨rfl,(Below.refl _ _).alloc (Nat.le_refl _) _⟩
 ·by_cases h1:(s.size:Int)≤at'
  ·clear h
   go_enter Tryz.func67,Tryz.ntmps67
   go_wp2
   refine bodyPost_ret (v:=.tuple #[.agg zeroC,.int .i64 at',.int .i64 5]) (by simp[results,Tryz.results67,go_sem,zeroC]) rfl ?_
   exact ⟨rfl,(Below.refl _ _).alloc (Nat.le_refl _) _⟩
  ·obtain ⟨k,rfl⟩:∃ k:Nat,at'=(k:Int):=⟨at'.toNat,by omega⟩
   have hk:k<s.size:=by omega
   have hi:=run_byt s k hk (k:Int) rfl
   obtain ⟨y,hy⟩:∃ y,byt s k=y:=⟨_,rfl⟩
   have hyn:y≠124∧y≠62:=by
    rw[Int.toNat_natCast,hy] at h
    exact ⟨fun e=>h ⟨by omega,hk,.inl e⟩,fun e=>h ⟨by omega,hk,.inr e⟩⟩
   rw[hy] at hi
   have g1:((y:Int) != 124)=true:=by simp;omega
   have g2:((y:Int) != 62)=true:=by simp;omega
   clear h hy hyn
   go_enter Tryz.func67,Tryz.ntmps67
   go_wp2
   refine bodyPost_ret (v:=.tuple #[.agg zeroC,.int .i64 (k:Int),.int .i64 5]) (by simp[results,Tryz.results67,go_sem,zeroC]) rfl ?_
   exact ⟨rfl,(Below.refl _ _).alloc (Nat.le_refl _) _⟩
end Go.Proofs.YthcmkpiajkbpnaaGreatDoor

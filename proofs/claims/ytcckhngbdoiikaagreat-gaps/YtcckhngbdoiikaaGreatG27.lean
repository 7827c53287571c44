import Derived.Test.YtcckhngbdoiikaaGreatG26

namespace Go.Proofs.YtcckhngbdoiikaaGreat
open Go.RowKit Go.Deep
set_option linter.unusedVariables false
theorem MadeP.ownr {w0 w:World} {s:ByteArray} {b k:Nat} {v:Value} {kids:List MT} {D:Nat→Prop} (h:MadeP w0 w s b k v kids D):w.ownsRow 0 80 1 v kids.length (ptrs (kids.map MT.root)):=by
 have:=h.row; unfold PRow at this; rwa [List.length_map] at this
theorem rowAlloc {w:World} {v:Value} {n:Nat} {xs:List Value} (h:w.ownsRow 0 80 1 v n xs) (o:Obj):(w.alloc o).ownsRow 0 80 1 v n xs:=ownsRow_kept (ex:=fun _=>False) h (Kept.ofBelow (Below1 _ _)) (fun _ _ e=>e)
set_option maxRecDepth 40000 in
set_option maxHeartbeats 12800000 in
theorem expr_any (s:ByteArray) (t:PT) (i j:Nat) (hs:s.size ≤ 120) (h:t.Sp s i j) (hj:j ≤ s.size) (hg:GrpC s t):ExprC s t i j:=by
 intro w
 obtain ⟨ii,hii,hz0,hz1,hz2⟩:=info_parts Tryz.infoP3
 have hij:=PT.sp_le h
 have HS:=hide (And.intro h hg)
 clear h hg
 go_enter Tryz.func50,Tryz.ntmps50
 go_wp2_with fail
 go_loopg [8,9] (j - i) (fun G rv iv wr=>∃ (k rb:Nat) (r:PT) (va vr:Value) (rows cur:List MT) (D1 D2:Nat→Prop),rv = .pointer (some ⟨rb,0,none⟩)∧iv = .int .i64 (k:Int)∧G = j - k∧k ≤ j∧ExInv w wr s t r k j w.heap.size rb va vr rows cur D1 D2)
 case atStart =>
  refine ⟨i,w.heap.size + 1,t,nilV,nilV,[],[],fun x=>x = w.heap.size,fun x=>x = w.heap.size + 1,rfl,rfl,rfl,hij,HS.out.1,HS.out.2,rfl,(MadeP.new w w s 2 (Nat.le_refl _)).below (Below1 _ _),?_,fun x h1 h2=>by omega,(Below1 _ _).alloc (by simp) _,by simp⟩
  have h9:=MadeP.new w (w.alloc (.cells (prtC 2 0 0 noT nilV) 129)) s 1 (by simp)
  have e9:(w.alloc (.cells (prtC 2 0 0 noT nilV) 129)).heap.size = w.heap.size + 1:=by simp
  rw [e9] at h9
  exact h9
 case round =>
  obtain ⟨k,rb,r,va,vr,rows,cur,D1,D2,rfl,rfl,rfl,hkj,hI⟩:=hrel
  have hfew:=hI.few
  have zr:rb < wr.heap.size:=hI.row.blk.lt
  have za:w.heap.size < wr.heap.size:=hI.all.blk.lt
  have zar:w.heap.size ≠ rb:=fun e=>hI.dis _ hI.all.db (e ▸ hI.row.db)
  have hsc:=sp_cases hs hI.sp hj hI.grp
  rcases hsc with ⟨rfl,rfl⟩ | ⟨r',rfl,h124,hlt,hsp,hgr⟩ | ⟨x,e,m,r',hnt,h124,hke,hej,hae,hat,hmk,hsp,hgr⟩
  ·-- the end
   have e0:decide ((k:Int) < (k:Int)) = false:=by simp
   have hra:=hI.all.ownr
   obtain ⟨_,ad,acap,rfl,_⟩:=ownsRow_form hra
   have c4:wr.cell? ⟨w.heap.size,4,none⟩ = some (.slice ad rows.length acap):=hI.all.blk.cell 4
   have HOL:=hide (rowAlloc hra (.cells #[.pointer (some ⟨rb,0,none⟩)] 80))
   have HI:=hide hI
   clear hI hra
   go_wp2_with (at_builtin; (refine wpList_append_lies _ (by rfl) _ _ _ (by rfl) 0 80 ii _ 1 8 Tryz.underlying74 hii hz0 hz1 hz2 rfl (by omega) (.slice ad rows.length acap) rows.length (ptrs (rows.map MT.root)) (by rfl) HOL.out ⟨wr.heap.size,0,none⟩ 1 1 [.pointer (some ⟨rb,0,none⟩)] (by rfl) (by rfl) (World.news_of_block (cs:=#[.pointer (some ⟨rb,0,none⟩)]) (t:=80) (fr:=(0,0)) (by have:=heap_alloc_new wr (.cells #[.pointer (some ⟨rb,0,none⟩)] 80); simpa using this)) (by simp [Value.oneCell']) (by omega) (by unfold maxLen; omega) (by omega) (by simp) (wr.heap.size + 1) (by simp) ?_))
   intro gg cap6 w6 hown6 hgrow6 hat6 hlt6
   have hI:=HI.out
   obtain ⟨p1,p2,p3⟩:=hI.row.part
   have hz:=hI.below.size
   obtain ⟨q1,q2,q3⟩:=hI.all.push (T:=.node rb vr 1 cur) (E:=D2) p1 p2 (fun x hx=>⟨fun e=>hI.dis x e hx,(hI.row.lt x hx).1,(hI.row.lt x hx).2⟩) p3 _ hown6 hgrow6 (by simpa using hat6) hlt6 hz
   have d4:w6.cell? ⟨w.heap.size,4,none⟩ = some (.slice ad rows.length acap):=q3.cell 4
   have f4:=q3.frozen 4
   have hbw:Below w.heap.size w (w6.setCell ⟨w.heap.size,4,none⟩ (.slice (some ⟨gg,0,none⟩) (rows.length + 1) cap6)):=Below_kept hI.below q2 hz (fun i hi e=>by have:=(hI.all.lt i e).1; omega)
   have hntf:(MT.node w.heap.size (.slice (some ⟨gg,0,none⟩) (rows.length + 1) cap6) 2 (rows ++ [.node rb vr 1 cur])).nt = t.nt [] []:=by
    rw [← hI.nt]
    simp only [MT.nt,PT.nt,ntL_snoc]
   have HH:=hide (And.intro q1.part (And.intro q1.lt (And.intro hbw hntf)))
   clear hI q1 q2 q3 p1 p2 p3 hbw hntf hown6 hgrow6 hat6 HI HOL c4
   go_wp2_with fail
   go_ret
   obtain ⟨⟨a1,a2,a3⟩,a4,a5,a6⟩:=HH.out
   exact ⟨_,rfl,a6,a1,fun b hb=>(a4 b (a2 b hb)).1,a3,a5⟩
  ·-- a bar
   have e0:decide ((k:Int) < (j:Int)) = true:=by simp; omega
   have hks:k < s.size:=by omega
   have k0:(0:Int) ≤ (k:Int):=by omega
   have k1:(k:Int) < (s.size:Int):=by omega
   rw [peekI_at hks] at h124
   have e1:(((s[k].toNat:Nat):Int) == 124) = true:=by simp; omega
   have hra:=hI.all.ownr
   obtain ⟨_,ad,acap,rfl,_⟩:=ownsRow_form hra
   have c4:wr.cell? ⟨w.heap.size,4,none⟩ = some (.slice ad rows.length acap):=hI.all.blk.cell 4
   have HOL:=hide (rowAlloc hra (.cells #[.pointer (some ⟨rb,0,none⟩)] 80))
   have HI:=hide hI
   clear hI hra h124 hsp hgr
   go_wp2_with (at_builtin; (refine wpList_append_lies _ (by rfl) _ _ _ (by rfl) 0 80 ii _ 1 8 Tryz.underlying74 hii hz0 hz1 hz2 rfl (by omega) (.slice ad rows.length acap) rows.length (ptrs (rows.map MT.root)) (by rfl) HOL.out ⟨wr.heap.size,0,none⟩ 1 1 [.pointer (some ⟨rb,0,none⟩)] (by rfl) (by rfl) (World.news_of_block (cs:=#[.pointer (some ⟨rb,0,none⟩)]) (t:=80) (fr:=(0,0)) (by have:=heap_alloc_new wr (.cells #[.pointer (some ⟨rb,0,none⟩)] 80); simpa using this)) (by simp [Value.oneCell']) (by omega) (by unfold maxLen; omega) (by omega) (by simp) (wr.heap.size + 1) (by simp) ?_))
   intro gg cap6 w6 hown6 hgrow6 hat6 hlt6
   obtain ⟨D1',D2',q1,q3⟩:=HI.out.bar _ hown6 hgrow6 (by simpa using hat6) hlt6
   have d4:w6.cell? ⟨w.heap.size,4,none⟩ = some (.slice ad rows.length acap):=q3.cell 4
   have f4:=q3.frozen 4
   have HH:=hide q1
   clear q1 q3 hown6 hgrow6 hat6 HI HOL c4
   go_wp2_with fail
   go_roundg (j - (k + 1))
   case measure=>omega
   case rel=>exact ⟨k + 1,w6.heap.size,r',_,_,_,_,D1',D2',by simp,by go_num,rfl,by omega,HH.out⟩
  ·-- a piece
   have e0:decide ((k:Int) < (j:Int)) = true:=by simp; omega
   have hks:k < s.size:=by omega
   have k0:(0:Int) ≤ (k:Int):=by omega
   have k1:(k:Int) < (s.size:Int):=by omega
   rw [peekI_at hks] at h124
   have e1:(((s[k].toNat:Nat):Int) == 124) = false:=by simp; omega
   have hrr:=hI.row.ownr
   obtain ⟨_,ad,acap,rfl,_⟩:=ownsRow_form hrr
   have HI:=hide hI
   have HR:=hide (And.intro hnt (And.intro hsp hgr))
   have HA:=hide (hat wr)
   have HE:=hide hae
   clear hI hrr h124 hsp hgr hnt hat hae
   go_wp2_with fail
   refine (HE.out _).mono ?_
   rintro e' w0 ⟨rfl,rfl⟩
   go_wp2_with fail
   refine HA.out.mono ?_
   rintro e' w1 ⟨T,rfl,hT1,hT2,hT3,hT4,hT5⟩
   have zz:=hT5.size
   have fin:∀ (T':MT) (w2 w6:World) (gg cap6:Nat) (o:Obj),Below w0.heap.size w0 w2→T'.At w2 s zeroI→T'.nt = markNT m x→(∀ b,T'.has b→w0.heap.size ≤ b)→T'.blks.Nodup →
     w6.ownsRow 0 80 1 (.slice (some ⟨gg,0,none⟩) (cur.length + 1) cap6) (cur.length + 1) (ptrs (cur.map MT.root) ++ [.pointer (some ⟨T'.root,0,none⟩)])→(w2.alloc o).grownBy w6 (Value.slice ad cur.length acap).ownBlock→((Value.slice ad cur.length acap).ownBlock = some gg∨gg = (w2.alloc o).heap.size)→gg < w6.heap.size →
     ∃ D2',ExInv w (w6.setCell ⟨rb,4,none⟩ (.slice (some ⟨gg,0,none⟩) (cur.length + 1) cap6)) s t r' (e + stepM m) j w.heap.size rb va (.slice (some ⟨gg,0,none⟩) (cur.length + 1) cap6) rows (cur ++ [T']) D1 D2'∧Blk w6 rb (prtC 1 0 0 noT (Value.slice ad cur.length acap)) 129 :=
    fun T' w2 w6 gg cap6 o a1 a2 a3 a4 a5 a6 a7 a8 a9=>HI.out.piece (y:=markNT m x) HR.out.1 HR.out.2.1 HR.out.2.2 (by omega) a1 a2 a3 a4 a5 o a6 a7 a8 a9
   have FIN:=hide fin
   have HT:=hide (And.intro hT1 (And.intro hT2 (And.intro hT3 (And.intro hT4 hT5))))
   have HRow:Hid (∀ w2,Below w0.heap.size w0 w2→w2.ownsRow 0 80 1 (.slice ad cur.length acap) cur.length (ptrs (cur.map MT.root))∧w2.cell? ⟨rb,4,none⟩ = some (.slice ad cur.length acap)):=hide (fun w2 hb=>⟨(HI.out.row.below hb).ownr,(HI.out.row.below hb).blk.cell 4⟩)
   clear fin hT1 hT2 hT3 hT4 hT5 HA HE HI HR
   rcases hmk with ⟨rfl,n1,n2,n3⟩ | ⟨hm,hm2⟩
   ·by_cases hej2:e < j
    ·have x0:decide ((e:Int) < (j:Int)) = true:=by simp; omega
     have hes:e < s.size:=by omega
     have j0:(0:Int) ≤ (e:Int):=by omega
     have j1:(e:Int) < (s.size:Int):=by omega
     rw [peekI_at hes] at n1 n2 n3
     have y1:(((s[e].toNat:Nat):Int) == 42) = false:=by simp; omega
     have y2:(((s[e].toNat:Nat):Int) == 43) = false:=by simp; omega
     have y3:(((s[e].toNat:Nat):Int) == 63) = false:=by simp; omega
     clear n1 n2 n3
     obtain ⟨w2,rfl⟩:∃ w2:World,w2 = w1:=⟨_,rfl⟩
     obtain ⟨rt,hrt⟩:∃ rt:Nat,T.root = rt:=⟨_,rfl⟩
     rw [hrt]
     obtain ⟨TT,rfl⟩:∃ TT:MT,TT = T:=⟨_,rfl⟩
     have HXX:Hid (Below w0.heap.size w0 w2∧TT.At w2 s zeroI∧TT.nt = markNT 0 x∧(∀ b,TT.has b→w0.heap.size ≤ b)∧TT.blks.Nodup∧TT.root = rt):=⟨HT.out.2.2.2.2,HT.out.2.1,HT.out.1,HT.out.2.2.1,HT.out.2.2.2.1,hrt⟩
     clear HT hrt
     have HX:Hid (Below w0.heap.size w0 w2∧TT.At w2 s zeroI∧TT.nt = markNT 0 x∧(∀ b,TT.has b→w0.heap.size ≤ b)∧TT.blks.Nodup∧TT.root = rt):=HXX
     obtain ⟨hr1,c4⟩:=HRow.out w2 HX.out.1
     have zz2:=HX.out.1.size
     have HOL:=hide (rowAlloc hr1 (.cells #[.pointer (some ⟨rt,0,none⟩)] 80))
     clear hr1 HRow
     go_wp2_with (at_builtin; (refine wpList_append_lies _ (by rfl) _ _ _ (by rfl) 0 80 ii _ 1 8 Tryz.underlying74 hii hz0 hz1 hz2 rfl (by omega) (.slice ad cur.length acap) cur.length (ptrs (cur.map MT.root)) (by rfl) HOL.out ⟨w2.heap.size,0,none⟩ 1 1 [.pointer (some ⟨rt,0,none⟩)] (by rfl) (by rfl) (World.news_of_block (cs:=#[.pointer (some ⟨rt,0,none⟩)]) (t:=80) (fr:=(0,0)) (by have:=heap_alloc_new w2 (.cells #[.pointer (some ⟨rt,0,none⟩)] 80); simpa using this)) (by simp [Value.oneCell']) (by omega) (by unfold maxLen; omega) (by omega) (by simp) (w2.heap.size + 1) (by simp) ?_))
     intro gg cap6 w6 hown6 hgrow6 hat6 hlt6
     obtain ⟨x1,x2,x3,x4,x5,x6⟩:=HX.out
     rw [← x6] at hown6
     obtain ⟨D2',q1,q3⟩:=FIN.out TT w2 w6 gg cap6 _ x1 x2 x3 x4 x5 hown6 hgrow6 (by simpa using hat6) hlt6
     have d4:w6.cell? ⟨rb,4,none⟩ = some (.slice ad cur.length acap):=q3.cell 4
     have f4:=q3.frozen 4
     have HH:=hide q1
     clear q1 q3 hown6 hgrow6 hat6 HX x1 x2 x3 x4 x5 x6 FIN c4
     go_wp2_with fail
     go_roundg (j - (e + stepM 0))
     case measure=>have hst:stepM 0 = 0:=rfl; omega
     case rel=>exact ⟨e + stepM 0,rb,r',_,_,_,_,D1,D2',rfl,by rw [show stepM 0 = 0 from rfl]; go_num,rfl,by have hst:stepM 0 = 0:=rfl; omega,HH.out⟩
    ·have x0:decide ((e:Int) < (j:Int)) = false:=by simp; omega
     clear n1 n2 n3
     obtain ⟨w2,rfl⟩:∃ w2:World,w2 = w1:=⟨_,rfl⟩
     obtain ⟨rt,hrt⟩:∃ rt:Nat,T.root = rt:=⟨_,rfl⟩
     rw [hrt]
     obtain ⟨TT,rfl⟩:∃ TT:MT,TT = T:=⟨_,rfl⟩
     have HXX:Hid (Below w0.heap.size w0 w2∧TT.At w2 s zeroI∧TT.nt = markNT 0 x∧(∀ b,TT.has b→w0.heap.size ≤ b)∧TT.blks.Nodup∧TT.root = rt):=⟨HT.out.2.2.2.2,HT.out.2.1,HT.out.1,HT.out.2.2.1,HT.out.2.2.2.1,hrt⟩
     clear HT hrt
     have HX:Hid (Below w0.heap.size w0 w2∧TT.At w2 s zeroI∧TT.nt = markNT 0 x∧(∀ b,TT.has b→w0.heap.size ≤ b)∧TT.blks.Nodup∧TT.root = rt):=HXX
     obtain ⟨hr1,c4⟩:=HRow.out w2 HX.out.1
     have zz2:=HX.out.1.size
     have HOL:=hide (rowAlloc hr1 (.cells #[.pointer (some ⟨rt,0,none⟩)] 80))
     clear hr1 HRow
     go_wp2_with (at_builtin; (refine wpList_append_lies _ (by rfl) _ _ _ (by rfl) 0 80 ii _ 1 8 Tryz.underlying74 hii hz0 hz1 hz2 rfl (by omega) (.slice ad cur.length acap) cur.length (ptrs (cur.map MT.root)) (by rfl) HOL.out ⟨w2.heap.size,0,none⟩ 1 1 [.pointer (some ⟨rt,0,none⟩)] (by rfl) (by rfl) (World.news_of_block (cs:=#[.pointer (some ⟨rt,0,none⟩)]) (t:=80) (fr:=(0,0)) (by have:=heap_alloc_new w2 (.cells #[.pointer (some ⟨rt,0,none⟩)] 80); simpa using this)) (by simp [Value.oneCell']) (by omega) (by unfold maxLen; omega) (by omega) (by simp) (w2.heap.size + 1) (by simp) ?_))
     intro gg cap6 w6 hown6 hgrow6 hat6 hlt6
     obtain ⟨x1,x2,x3,x4,x5,x6⟩:=HX.out
     rw [← x6] at hown6
     obtain ⟨D2',q1,q3⟩:=FIN.out TT w2 w6 gg cap6 _ x1 x2 x3 x4 x5 hown6 hgrow6 (by simpa using hat6) hlt6
     have d4:w6.cell? ⟨rb,4,none⟩ = some (.slice ad cur.length acap):=q3.cell 4
     have f4:=q3.frozen 4
     have HH:=hide q1
     clear q1 q3 hown6 hgrow6 hat6 HX x1 x2 x3 x4 x5 x6 FIN c4
     go_wp2_with fail
     go_roundg (j - (e + stepM 0))
     case measure=>have hst:stepM 0 = 0:=rfl; omega
     case rel=>exact ⟨e + stepM 0,rb,r',_,_,_,_,D1,D2',rfl,by rw [show stepM 0 = 0 from rfl]; go_num,rfl,by have hst:stepM 0 = 0:=rfl; omega,HH.out⟩
   ·have hst9:stepM m = 1:=by unfold stepM; rw [if_neg (by omega)]
    have x0:decide ((e:Int) < (j:Int)) = true:=by simp; omega
    have hes:e < s.size:=by omega
    have j0:(0:Int) ≤ (e:Int):=by omega
    have j1:(e:Int) < (s.size:Int):=by omega
    rw [peekI_at hes] at hm2
    rcases hm with rfl | rfl | rfl
    ·have y1:(((s[e].toNat:Nat):Int) == 42) = true:=by simp; omega
     have y2:(((s[e].toNat:Nat):Int) == 43) = false:=by simp; omega
     have y3:(((s[e].toNat:Nat):Int) == 63) = false:=by simp; omega
     clear hm2 hst9
     obtain ⟨a1,a2,a3⟩:=wrapT (w0:=w0) 3 HT.out.2.1 HT.out.2.2.1 HT.out.2.2.2.1 zz
     have e9:((w1.alloc (.cells #[.pointer (some ⟨T.root,0,none⟩)] 80)).alloc (.cells (prtC 3 0 0 noT (.slice (some ⟨w1.heap.size,0,none⟩) 1 1)) 129)).heap.size = w1.heap.size + 1 + 1:=by simp
     obtain ⟨b1,b2,b3⟩:=wrapT (w0:=w0) 4 a1 a2 a3 (by simp; omega)
     rw [e9] at b1 b2 b3
     have hbb:Below w0.heap.size w0 ((((w1.alloc (.cells #[.pointer (some ⟨T.root,0,none⟩)] 80)).alloc (.cells (prtC 3 0 0 noT (.slice (some ⟨w1.heap.size,0,none⟩) 1 1)) 129)).alloc (.cells #[.pointer (some ⟨w1.heap.size + 1,0,none⟩)] 80)).alloc (.cells (prtC 4 0 0 noT (.slice (some ⟨w1.heap.size + 1 + 1,0,none⟩) 1 1)) 129)):=(((HT.out.2.2.2.2.alloc zz _).alloc (by simp; omega) _).alloc (by simp; omega) _).alloc (by simp; omega) _
     have HXX:Hid (Below w0.heap.size w0 ((((w1.alloc (.cells #[.pointer (some ⟨T.root,0,none⟩)] 80)).alloc (.cells (prtC 3 0 0 noT (.slice (some ⟨w1.heap.size,0,none⟩) 1 1)) 129)).alloc (.cells #[.pointer (some ⟨w1.heap.size + 1,0,none⟩)] 80)).alloc (.cells (prtC 4 0 0 noT (.slice (some ⟨w1.heap.size + 1 + 1,0,none⟩) 1 1)) 129))∧(MT.node (w1.heap.size + 1 + 1 + 1) (.slice (some ⟨w1.heap.size + 1 + 1,0,none⟩) 1 1) 4 [(MT.node (w1.heap.size + 1) (.slice (some ⟨w1.heap.size,0,none⟩) 1 1) 3 [T])]).At ((((w1.alloc (.cells #[.pointer (some ⟨T.root,0,none⟩)] 80)).alloc (.cells (prtC 3 0 0 noT (.slice (some ⟨w1.heap.size,0,none⟩) 1 1)) 129)).alloc (.cells #[.pointer (some ⟨w1.heap.size + 1,0,none⟩)] 80)).alloc (.cells (prtC 4 0 0 noT (.slice (some ⟨w1.heap.size + 1 + 1,0,none⟩) 1 1)) 129)) s zeroI∧(MT.node (w1.heap.size + 1 + 1 + 1) (.slice (some ⟨w1.heap.size + 1 + 1,0,none⟩) 1 1) 4 [(MT.node (w1.heap.size + 1) (.slice (some ⟨w1.heap.size,0,none⟩) 1 1) 3 [T])]).nt = markNT 42 x∧(∀ b,(MT.node (w1.heap.size + 1 + 1 + 1) (.slice (some ⟨w1.heap.size + 1 + 1,0,none⟩) 1 1) 4 [(MT.node (w1.heap.size + 1) (.slice (some ⟨w1.heap.size,0,none⟩) 1 1) 3 [T])]).has b→w0.heap.size ≤ b)∧(MT.node (w1.heap.size + 1 + 1 + 1) (.slice (some ⟨w1.heap.size + 1 + 1,0,none⟩) 1 1) 4 [(MT.node (w1.heap.size + 1) (.slice (some ⟨w1.heap.size,0,none⟩) 1 1) 3 [T])]).blks.Nodup∧(MT.node (w1.heap.size + 1 + 1 + 1) (.slice (some ⟨w1.heap.size + 1 + 1,0,none⟩) 1 1) 4 [(MT.node (w1.heap.size + 1) (.slice (some ⟨w1.heap.size,0,none⟩) 1 1) 3 [T])]).root = w1.heap.size + 1 + 1 + 1):=⟨hbb,b1,by simp [MT.nt,ntL,markNT,HT.out.1],b2,b3,rfl⟩
     clear a1 a2 a3 b1 b2 b3 hbb HT e9
     have hW:∃ W:World,((((w1.alloc (.cells #[.pointer (some ⟨T.root,0,none⟩)] 80)).alloc (.cells (prtC 3 0 0 noT (.slice (some ⟨w1.heap.size,0,none⟩) 1 1)) 129)).alloc (.cells #[.pointer (some ⟨w1.heap.size + 1,0,none⟩)] 80)).alloc (.cells (prtC 4 0 0 noT (.slice (some ⟨w1.heap.size + 1 + 1,0,none⟩) 1 1)) 129)) = W:=⟨_,rfl⟩
     obtain ⟨w2,hw2⟩:=hW
     rw [hw2] at HXX
     have HW2:=hide hw2
     clear hw2
     generalize (MT.node (w1.heap.size + 1 + 1 + 1) (.slice (some ⟨w1.heap.size + 1 + 1,0,none⟩) 1 1) 4 [(MT.node (w1.heap.size + 1) (.slice (some ⟨w1.heap.size,0,none⟩) 1 1) 3 [T])]) = TT at HXX
     go_upto_region 17 with fail
     have hw2:((((w1.alloc (.cells #[.pointer (some ⟨T.root,0,none⟩)] 80)).alloc (.cells #[.int .i64 3,.int .i64 0,.int .i64 0,.string ⟨#[]⟩,.slice (some ⟨w1.heap.size,0,none⟩) 1 1] 129)).alloc (.cells #[.pointer (some ⟨w1.heap.size + 1,0,none⟩)] 80)).alloc (.cells #[.int .i64 4,.int .i64 0,.int .i64 0,.string ⟨#[]⟩,.slice (some ⟨w1.heap.size + 1 + 1,0,none⟩) 1 1] 129)) = w2:=HW2.out
     rw [hw2]
     have HW3:=hide hw2
     clear hw2
     obtain ⟨rt,hrt⟩:∃ rt:Nat,w1.heap.size + 1 + 1 + 1 = rt:=⟨_,rfl⟩
     rw [hrt] at HXX ⊢
     clear hrt
     have HX:Hid (Below w0.heap.size w0 w2∧TT.At w2 s zeroI∧TT.nt = markNT 42 x∧(∀ b,TT.has b→w0.heap.size ≤ b)∧TT.blks.Nodup∧TT.root = rt):=HXX
     obtain ⟨hr1,c4⟩:=HRow.out w2 HX.out.1
     have zz2:=HX.out.1.size
     have HOL:=hide (rowAlloc hr1 (.cells #[.pointer (some ⟨rt,0,none⟩)] 80))
     clear hr1 HRow
     go_wp2_with (at_builtin; (refine wpList_append_lies _ (by rfl) _ _ _ (by rfl) 0 80 ii _ 1 8 Tryz.underlying74 hii hz0 hz1 hz2 rfl (by omega) (.slice ad cur.length acap) cur.length (ptrs (cur.map MT.root)) (by rfl) HOL.out ⟨w2.heap.size,0,none⟩ 1 1 [.pointer (some ⟨rt,0,none⟩)] (by rfl) (by rfl) (World.news_of_block (cs:=#[.pointer (some ⟨rt,0,none⟩)]) (t:=80) (fr:=(0,0)) (by have:=heap_alloc_new w2 (.cells #[.pointer (some ⟨rt,0,none⟩)] 80); simpa using this)) (by simp [Value.oneCell']) (by omega) (by unfold maxLen; omega) (by omega) (by simp) (w2.heap.size + 1) (by simp) ?_))
     intro gg cap6 w6 hown6 hgrow6 hat6 hlt6
     obtain ⟨x1,x2,x3,x4,x5,x6⟩:=HX.out
     rw [← x6] at hown6
     obtain ⟨D2',q1,q3⟩:=FIN.out TT w2 w6 gg cap6 _ x1 x2 x3 x4 x5 hown6 hgrow6 (by simpa using hat6) hlt6
     have d4:w6.cell? ⟨rb,4,none⟩ = some (.slice ad cur.length acap):=q3.cell 4
     have f4:=q3.frozen 4
     have HH:=hide q1
     clear q1 q3 hown6 hgrow6 hat6 HX x1 x2 x3 x4 x5 x6 FIN c4
     go_wp2_with fail
     go_roundg (j - (e + stepM 42))
     case measure=>have hst:stepM 42 = 1:=rfl; omega
     case rel=>exact ⟨e + stepM 42,rb,r',_,_,_,_,D1,D2',rfl,by rw [show stepM 42 = 1 from rfl]; go_num,rfl,by have hst:stepM 42 = 1:=rfl; omega,HH.out⟩
    ·have y1:(((s[e].toNat:Nat):Int) == 42) = false:=by simp; omega
     have y2:(((s[e].toNat:Nat):Int) == 43) = true:=by simp; omega
     have y3:(((s[e].toNat:Nat):Int) == 63) = false:=by simp; omega
     clear hm2 hst9
     obtain ⟨a1,a2,a3⟩:=wrapT (w0:=w0) 3 HT.out.2.1 HT.out.2.2.1 HT.out.2.2.2.1 zz
     have hbb:Below w0.heap.size w0 ((w1.alloc (.cells #[.pointer (some ⟨T.root,0,none⟩)] 80)).alloc (.cells (prtC 3 0 0 noT (.slice (some ⟨w1.heap.size,0,none⟩) 1 1)) 129)):=(HT.out.2.2.2.2.alloc zz _).alloc (by simp; omega) _
     have HXX:Hid (Below w0.heap.size w0 ((w1.alloc (.cells #[.pointer (some ⟨T.root,0,none⟩)] 80)).alloc (.cells (prtC 3 0 0 noT (.slice (some ⟨w1.heap.size,0,none⟩) 1 1)) 129))∧(MT.node (w1.heap.size + 1) (.slice (some ⟨w1.heap.size,0,none⟩) 1 1) 3 [T]).At ((w1.alloc (.cells #[.pointer (some ⟨T.root,0,none⟩)] 80)).alloc (.cells (prtC 3 0 0 noT (.slice (some ⟨w1.heap.size,0,none⟩) 1 1)) 129)) s zeroI∧(MT.node (w1.heap.size + 1) (.slice (some ⟨w1.heap.size,0,none⟩) 1 1) 3 [T]).nt = markNT 43 x∧(∀ b,(MT.node (w1.heap.size + 1) (.slice (some ⟨w1.heap.size,0,none⟩) 1 1) 3 [T]).has b→w0.heap.size ≤ b)∧(MT.node (w1.heap.size + 1) (.slice (some ⟨w1.heap.size,0,none⟩) 1 1) 3 [T]).blks.Nodup∧(MT.node (w1.heap.size + 1) (.slice (some ⟨w1.heap.size,0,none⟩) 1 1) 3 [T]).root = w1.heap.size + 1):=⟨hbb,a1,by simp [MT.nt,ntL,markNT,HT.out.1],a2,a3,rfl⟩
     clear a1 a2 a3 hbb HT
     have hW:∃ W:World,((w1.alloc (.cells #[.pointer (some ⟨T.root,0,none⟩)] 80)).alloc (.cells (prtC 3 0 0 noT (.slice (some ⟨w1.heap.size,0,none⟩) 1 1)) 129)) = W:=⟨_,rfl⟩
     obtain ⟨w2,hw2⟩:=hW
     rw [hw2] at HXX
     have HW2:=hide hw2
     clear hw2
     generalize MT.node (w1.heap.size + 1) (.slice (some ⟨w1.heap.size,0,none⟩) 1 1) 3 [T] = TT at HXX
     go_upto_region 17 with fail
     have hw2:((w1.alloc (.cells #[.pointer (some ⟨T.root,0,none⟩)] 80)).alloc (.cells #[.int .i64 3,.int .i64 0,.int .i64 0,.string ⟨#[]⟩,.slice (some ⟨w1.heap.size,0,none⟩) 1 1] 129)) = w2:=HW2.out
     rw [hw2]
     have HW3:=hide hw2
     clear hw2
     obtain ⟨rt,hrt⟩:∃ rt:Nat,w1.heap.size + 1 = rt:=⟨_,rfl⟩
     rw [hrt] at HXX ⊢
     clear hrt
     have HX:Hid (Below w0.heap.size w0 w2∧TT.At w2 s zeroI∧TT.nt = markNT 43 x∧(∀ b,TT.has b→w0.heap.size ≤ b)∧TT.blks.Nodup∧TT.root = rt):=HXX
     obtain ⟨hr1,c4⟩:=HRow.out w2 HX.out.1
     have zz2:=HX.out.1.size
     have HOL:=hide (rowAlloc hr1 (.cells #[.pointer (some ⟨rt,0,none⟩)] 80))
     clear hr1 HRow
     go_wp2_with (at_builtin; (refine wpList_append_lies _ (by rfl) _ _ _ (by rfl) 0 80 ii _ 1 8 Tryz.underlying74 hii hz0 hz1 hz2 rfl (by omega) (.slice ad cur.length acap) cur.length (ptrs (cur.map MT.root)) (by rfl) HOL.out ⟨w2.heap.size,0,none⟩ 1 1 [.pointer (some ⟨rt,0,none⟩)] (by rfl) (by rfl) (World.news_of_block (cs:=#[.pointer (some ⟨rt,0,none⟩)]) (t:=80) (fr:=(0,0)) (by have:=heap_alloc_new w2 (.cells #[.pointer (some ⟨rt,0,none⟩)] 80); simpa using this)) (by simp [Value.oneCell']) (by omega) (by unfold maxLen; omega) (by omega) (by simp) (w2.heap.size + 1) (by simp) ?_))
     intro gg cap6 w6 hown6 hgrow6 hat6 hlt6
     obtain ⟨x1,x2,x3,x4,x5,x6⟩:=HX.out
     rw [← x6] at hown6
     obtain ⟨D2',q1,q3⟩:=FIN.out TT w2 w6 gg cap6 _ x1 x2 x3 x4 x5 hown6 hgrow6 (by simpa using hat6) hlt6
     have d4:w6.cell? ⟨rb,4,none⟩ = some (.slice ad cur.length acap):=q3.cell 4
     have f4:=q3.frozen 4
     have HH:=hide q1
     clear q1 q3 hown6 hgrow6 hat6 HX x1 x2 x3 x4 x5 x6 FIN c4
     go_wp2_with fail
     go_roundg (j - (e + stepM 43))
     case measure=>have hst:stepM 43 = 1:=rfl; omega
     case rel=>exact ⟨e + stepM 43,rb,r',_,_,_,_,D1,D2',rfl,by rw [show stepM 43 = 1 from rfl]; go_num,rfl,by have hst:stepM 43 = 1:=rfl; omega,HH.out⟩
    ·have y1:(((s[e].toNat:Nat):Int) == 42) = false:=by simp; omega
     have y2:(((s[e].toNat:Nat):Int) == 43) = false:=by simp; omega
     have y3:(((s[e].toNat:Nat):Int) == 63) = true:=by simp; omega
     clear hm2 hst9
     obtain ⟨a1,a2,a3⟩:=wrapT (w0:=w0) 4 HT.out.2.1 HT.out.2.2.1 HT.out.2.2.2.1 zz
     have hbb:Below w0.heap.size w0 ((w1.alloc (.cells #[.pointer (some ⟨T.root,0,none⟩)] 80)).alloc (.cells (prtC 4 0 0 noT (.slice (some ⟨w1.heap.size,0,none⟩) 1 1)) 129)):=(HT.out.2.2.2.2.alloc zz _).alloc (by simp; omega) _
     have HXX:Hid (Below w0.heap.size w0 ((w1.alloc (.cells #[.pointer (some ⟨T.root,0,none⟩)] 80)).alloc (.cells (prtC 4 0 0 noT (.slice (some ⟨w1.heap.size,0,none⟩) 1 1)) 129))∧(MT.node (w1.heap.size + 1) (.slice (some ⟨w1.heap.size,0,none⟩) 1 1) 4 [T]).At ((w1.alloc (.cells #[.pointer (some ⟨T.root,0,none⟩)] 80)).alloc (.cells (prtC 4 0 0 noT (.slice (some ⟨w1.heap.size,0,none⟩) 1 1)) 129)) s zeroI∧(MT.node (w1.heap.size + 1) (.slice (some ⟨w1.heap.size,0,none⟩) 1 1) 4 [T]).nt = markNT 63 x∧(∀ b,(MT.node (w1.heap.size + 1) (.slice (some ⟨w1.heap.size,0,none⟩) 1 1) 4 [T]).has b→w0.heap.size ≤ b)∧(MT.node (w1.heap.size + 1) (.slice (some ⟨w1.heap.size,0,none⟩) 1 1) 4 [T]).blks.Nodup∧(MT.node (w1.heap.size + 1) (.slice (some ⟨w1.heap.size,0,none⟩) 1 1) 4 [T]).root = w1.heap.size + 1):=⟨hbb,a1,by simp [MT.nt,ntL,markNT,HT.out.1],a2,a3,rfl⟩
     clear a1 a2 a3 hbb HT
     have hW:∃ W:World,((w1.alloc (.cells #[.pointer (some ⟨T.root,0,none⟩)] 80)).alloc (.cells (prtC 4 0 0 noT (.slice (some ⟨w1.heap.size,0,none⟩) 1 1)) 129)) = W:=⟨_,rfl⟩
     obtain ⟨w2,hw2⟩:=hW
     rw [hw2] at HXX
     have HW2:=hide hw2
     clear hw2
     generalize MT.node (w1.heap.size + 1) (.slice (some ⟨w1.heap.size,0,none⟩) 1 1) 4 [T] = TT at HXX
     go_upto_region 17 with fail
     have hw2:((w1.alloc (.cells #[.pointer (some ⟨T.root,0,none⟩)] 80)).alloc (.cells #[.int .i64 4,.int .i64 0,.int .i64 0,.string ⟨#[]⟩,.slice (some ⟨w1.heap.size,0,none⟩) 1 1] 129)) = w2:=HW2.out
     rw [hw2]
     have HW3:=hide hw2
     clear hw2
     obtain ⟨rt,hrt⟩:∃ rt:Nat,w1.heap.size + 1 = rt:=⟨_,rfl⟩
     rw [hrt] at HXX ⊢
     clear hrt
     have HX:Hid (Below w0.heap.size w0 w2∧TT.At w2 s zeroI∧TT.nt = markNT 63 x∧(∀ b,TT.has b→w0.heap.size ≤ b)∧TT.blks.Nodup∧TT.root = rt):=HXX
     obtain ⟨hr1,c4⟩:=HRow.out w2 HX.out.1
     have zz2:=HX.out.1.size
     have HOL:=hide (rowAlloc hr1 (.cells #[.pointer (some ⟨rt,0,none⟩)] 80))
     clear hr1 HRow
     go_wp2_with (at_builtin; (refine wpList_append_lies _ (by rfl) _ _ _ (by rfl) 0 80 ii _ 1 8 Tryz.underlying74 hii hz0 hz1 hz2 rfl (by omega) (.slice ad cur.length acap) cur.length (ptrs (cur.map MT.root)) (by rfl) HOL.out ⟨w2.heap.size,0,none⟩ 1 1 [.pointer (some ⟨rt,0,none⟩)] (by rfl) (by rfl) (World.news_of_block (cs:=#[.pointer (some ⟨rt,0,none⟩)]) (t:=80) (fr:=(0,0)) (by have:=heap_alloc_new w2 (.cells #[.pointer (some ⟨rt,0,none⟩)] 80); simpa using this)) (by simp [Value.oneCell']) (by omega) (by unfold maxLen; omega) (by omega) (by simp) (w2.heap.size + 1) (by simp) ?_))
     intro gg cap6 w6 hown6 hgrow6 hat6 hlt6
     obtain ⟨x1,x2,x3,x4,x5,x6⟩:=HX.out
     rw [← x6] at hown6
     obtain ⟨D2',q1,q3⟩:=FIN.out TT w2 w6 gg cap6 _ x1 x2 x3 x4 x5 hown6 hgrow6 (by simpa using hat6) hlt6
     have d4:w6.cell? ⟨rb,4,none⟩ = some (.slice ad cur.length acap):=q3.cell 4
     have f4:=q3.frozen 4
     have HH:=hide q1
     clear q1 q3 hown6 hgrow6 hat6 HX x1 x2 x3 x4 x5 x6 FIN c4
     go_wp2_with fail
     go_roundg (j - (e + stepM 63))
     case measure=>have hst:stepM 63 = 1:=rfl; omega
     case rel=>exact ⟨e + stepM 63,rb,r',_,_,_,_,D1,D2',rfl,by rw [show stepM 63 = 1 from rfl]; go_num,rfl,by have hst:stepM 63 = 1:=rfl; omega,HH.out⟩
theorem grp_all (s:ByteArray) (hs:s.size ≤ 120):∀ t:PT,GrpC s t
 | .nil=>trivial
 | .bar r=>grp_all s hs r
 | .leaf _ _ _ _ r=>grp_all s hs r
 | .group t _ r=>⟨fun i j h hj=>expr_any s t i j hs h hj (grp_all s hs t),grp_all s hs r⟩
theorem expr_all (s:ByteArray) (hs:s.size ≤ 120) (t:PT) (i j:Nat) (h:t.Sp s i j) (hj:j ≤ s.size):ExprC s t i j:=expr_any s t i j hs h hj (grp_all s hs t)
theorem RSp.cases {s:ByteArray} {t:PT} {l:List PT} {p:Nat} (h:RSp s (t :: l) p) (hp:p ≤ s.size):∃ q,t.Sp s p q∧q ≤ s.size∧((l = []∧q = s.size)∨(l ≠ []∧q < s.size∧peekI s q = 10∧RSp s l (q + 1))):=by
 cases l with
 |nil=>exact ⟨s.size,h.1,Nat.le_refl _,.inl ⟨rfl,rfl⟩⟩
 |cons u l =>
  obtain ⟨q,h1,h2,h3,h4⟩:=h
  have hq:=peekI_in (s:=s) (p:=q) (by rw [h3]; decide)
  exact ⟨q,h1,by omega,.inr ⟨by simp,hq,h3,h4⟩⟩
structure ListP (w0 w:World) (s:ByteArray) (v:Value) (kids:List MT):Prop where
 row:w.ownsRow 0 80 1 v kids.length (ptrs (kids.map MT.root))
 kidsAt:AtL w s zeroI kids
 own:∀ x,hasL kids x→w0.heap.size ≤ x∧v.ownBlock ≠ some x
 dv:∀ x,v.ownBlock = some x→w0.heap.size ≤ x
 nodup:(blksL kids).Nodup
theorem ListP.below {w0 w w':World} {s:ByteArray} {v:Value} {kids:List MT} (h:ListP w0 w s v kids) (k:Below w.heap.size w w'):ListP w0 w' s v kids :=
 ⟨ownsRow_kept (ex:=fun _=>False) h.row (Kept.ofBelow k) (fun _ _ e=>e),AtL.kept (ex:=fun _=>False) (Kept.ofBelow k) kids h.kidsAt (fun _ _ e=>e),h.own,h.dv,h.nodup⟩
theorem ListP.push {w0 w w6:World} {s:ByteArray} {g cap:Nat} {v:Value} {kids:List MT} (h:ListP w0 w s v kids) {T:MT} (hT:T.At w s zeroI) {wb:World} (hh:∀ x,T.has x→wb.heap.size ≤ x) (hkl:∀ x,hasL kids x→x < wb.heap.size) (hvl:∀ x,v.ownBlock = some x→x < wb.heap.size) (hn:T.blks.Nodup) (o:Obj)
  (hown:w6.ownsRow 0 80 1 (.slice (some ⟨g,0,none⟩) (kids.length + 1) cap) (kids.length + 1) (ptrs (kids.map MT.root) ++ [.pointer (some ⟨T.root,0,none⟩)]))
  (hg:(w.alloc o).grownBy w6 v.ownBlock) (hat:v.ownBlock = some g∨g = (w.alloc o).heap.size) (hw:w0.heap.size ≤ wb.heap.size) (hwb:wb.heap.size ≤ w.heap.size) :
  ListP w0 w6 s (.slice (some ⟨g,0,none⟩) (kids.length + 1) cap) (kids ++ [T])∧Kept (fun x=>v.ownBlock = some x) w w6:=by
 have hk:Kept (fun x=>v.ownBlock = some x) w w6:=((Kept.refl _ _).alloc o).trans (Kept_grown (O:=fun x=>v.ownBlock = some x) hg (fun x e=>e)) (fun _ _ e=>e)
 have hgl:v.ownBlock = some g∨w.heap.size ≤ g:=by
  rcases hat with e | e
  ·exact .inl e
  ·right; simp at e; omega
 refine ⟨⟨?_,?_,?_,?_,?_⟩,hk⟩
 ·rw [List.map_append,List.length_append]
  have e:ptrs (kids.map MT.root ++ [T].map MT.root) = ptrs (kids.map MT.root) ++ [.pointer (some ⟨T.root,0,none⟩)]:=by simp [ptrs]
  rw [e]
  exact hown
 ·rw [AtL_iff]
  intro y hy
  rw [List.mem_append,List.mem_singleton] at hy
  rcases hy with hy | hy
  ·exact MT.At.kept hk y ((AtL_iff kids).1 h.kidsAt y hy) (fun x hx e=>(h.own x ((hasL_iff kids x).2 ⟨y,hy,hx⟩)).2 e)
  ·subst hy
   exact MT.At.kept hk y hT (fun x hx e=>by have:=hh x hx; have:=hvl x e; omega)
 ·intro x hx
  rw [hasL_iff] at hx
  obtain ⟨y,hy,hx⟩:=hx
  rw [List.mem_append,List.mem_singleton] at hy
  rcases hy with hy | hy
  ·have hx2:=(hasL_iff kids x).2 ⟨y,hy,hx⟩
   refine ⟨(h.own x hx2).1,fun e=>?_⟩
   cases (Option.some.inj e:g = x)
   rcases hgl with e' | e'
   ·exact (h.own _ hx2).2 e'
   ·have:=hkl _ hx2; omega
  ·subst hy
   have:=hh x hx
   refine ⟨by omega,fun e=>?_⟩
   cases (Option.some.inj e:g = x)
   rcases hgl with e' | e'
   ·have:=hvl _ e'; omega
   ·have:=MT.At.lt y hT _ hx; omega
 ·intro x e
  cases (Option.some.inj e:g = x)
  rcases hgl with e' | e'
  ·exact h.dv _ e'
  ·omega
 ·rw [blksL_append,List.nodup_append]
  refine ⟨h.nodup,by simpa [blksL] using hn,fun x hx y hy e=>?_⟩
  subst e
  have h1:=hkl x (blksL_has _ _ hx)
  have h2:=hh x (MT.blks_has T x (by simpa [blksL] using hy))
  omega
structure RuInv (w wr:World) (s:ByteArray) (ts:List PT) (i p:Nat) (rest:List PT) (v:Value) (kids:List MT):Prop where
 list:ListP w wr s v kids
 nt:ntL kids ++ rest.map PT.nt0 = ts.map PT.nt0
 at':(rest = []∧i = s.size + 1)∨∃ t l q,rest = t :: l∧t.Sp s p q∧p ≤ i∧i ≤ q∧q ≤ s.size∧((l = []∧q = s.size)∨(l ≠ []∧q < s.size∧peekI s q = 10∧RSp s l (q + 1)))
 below:Below w.heap.size w wr
 few:kids.length ≤ i
set_option maxRecDepth 20000 in
set_option maxHeartbeats 3200000 in
theorem refRules_any (s:ByteArray) (ts:List PT) (w:World) (hs:s.size ≤ 120) (h:RSp s ts 0) :
  Calls Tryz.prog 25 #[.string s] w fun e w'=>∃ (v:Value) (kids:List MT),e = .returned v∧ListP w w' s v kids∧ntL kids = ts.map PT.nt0∧Below w.heap.size w w'∧kids.length ≤ 200:=by
 obtain ⟨ii,hii,hz0,hz1,hz2⟩:=info_parts Tryz.infoP3
 have HS:=hide h
 clear h
 go_enter Tryz.func25,Tryz.ntmps25
 go_wp2_with fail
 go_loopg [3,4,5] (s.size + 1) (fun G lv pv iv wr=>∃ (i p:Nat) (rest:List PT) (kids:List MT),pv = .int .i64 (p:Int)∧iv = .int .i64 (i:Int)∧G = s.size + 1 - i∧i ≤ s.size + 1∧p ≤ s.size + 1∧RuInv w wr s ts i p rest lv kids)
 case atStart =>
  refine ⟨0,0,ts,[],rfl,rfl,rfl,by omega,by omega,⟨World.ownsRow_nil _ _ _ _,by simp [AtL],fun x hx=>by simp [hasL] at hx,fun x hx=>by simp [Value.ownBlock] at hx,by simp [blksL]⟩,rfl,?_,Below.refl _ _,by simp⟩
  cases ts with
  |nil=>exact HS.out.elim
  |cons t l =>
   obtain ⟨q,h1,h2,h3⟩:=RSp.cases HS.out (by omega)
   exact .inr ⟨t,l,q,rfl,h1,Nat.le_refl _,by omega,h2,h3⟩
 case round =>
  obtain ⟨i,p,rest,kids,rfl,rfl,rfl,hi,hp,hI⟩:=hrel
  have hrow:=hI.list.row
  obtain ⟨_,ad,acap,rfl,_⟩:=ownsRow_form hrow
  rcases hI.at' with ⟨rfl,rfl⟩ | ⟨t,l,q,rfl,hsp,hpi,hiq,hqs,hrest⟩
  ·have e0:decide (((s.size + 1:Nat):Int) ≤ (s.size:Int)) = false:=by simp; omega
   have e0':decide ((s.size:Int) + 1 ≤ (s.size:Int)) = false:=by simp; omega
   have HI:=hide hI
   clear hI hrow
   go_wp2_with fail
   go_ret
   have hI:=HI.out
   exact ⟨_,kids,rfl,hI.list,by have:=hI.nt; simpa using this,hI.below,by have:=hI.few; omega⟩
  ·have e0:decide ((i:Int) ≤ (s.size:Int)) = true:=by simp; omega
   by_cases hlt:i < q
   ·-- inside a rule
    have his:i < s.size:=by omega
    have e1:((i:Int) == (s.size:Int)) = false:=by simp; omega
    have hnl:=PT.sp_nl hsp i hpi hlt
    rw [peekI_at his] at hnl
    have e2:(((s[i].toNat:Nat):Int) == 10) = false:=by simp; omega
    have i0:(0:Int) ≤ (i:Int):=by omega
    have i1:(i:Int) < (s.size:Int):=by omega
    have HI:=hide hI
    have HR:=hide (And.intro hsp hrest)
    clear hI hrow hnl hsp hrest
    go_wp2_with fail
    go_roundg (s.size + 1 - (i + 1))
    case measure=>omega
    case rel =>
     have hI:=HI.out
     exact ⟨i + 1,p,t :: l,kids,rfl,by go_num,rfl,by omega,hp,hI.list,hI.nt,.inr ⟨t,l,q,rfl,HR.out.1,by omega,by omega,hqs,HR.out.2⟩,hI.below,by have:=hI.few; omega⟩
   ·obtain rfl:i = q:=by omega
    have HX:=hide (expr_all s hs t p i hsp hqs wr)
    have hf:=hI.few
    have hzl:∀ x,hasL kids x→x < wr.heap.size:=AtL.lt kids hI.list.kidsAt
    have hzv:=ownsRow_lt hrow
    have hwz:=hI.below.size
    have HI:=hide hI
    have HZ:=hide (And.intro hzl hzv)
    have key:Hid (∀ (T:MT) (w1 w6:World) (gg cap6:Nat) (o:Obj),T.nt = t.nt [] []→T.At w1 s zeroI→(∀ b,T.has b→wr.heap.size ≤ b)→T.blks.Nodup→Below wr.heap.size wr w1 →
      w6.ownsRow 0 80 1 (.slice (some ⟨gg,0,none⟩) (kids.length + 1) cap6) (kids.length + 1) (ptrs (kids.map MT.root) ++ [.pointer (some ⟨T.root,0,none⟩)])→(w1.alloc o).grownBy w6 (Value.slice ad kids.length acap).ownBlock→((Value.slice ad kids.length acap).ownBlock = some gg∨gg = (w1.alloc o).heap.size) →
      RuInv w w6 s ts (i + 1) (i + 1) l (.slice (some ⟨gg,0,none⟩) (kids.length + 1) cap6) (kids ++ [T])):=by
     refine hide fun T w1 w6 gg cap6 o a1 a2 a3 a4 a5 a6 a7 a8=>?_
     have hb1:=a5.size
     obtain ⟨q1,q2⟩:=(HI.out.list.below a5).push (T:=T) (wb:=wr) a2 a3 HZ.out.1 HZ.out.2 a4 o a6 a7 a8 hwz hb1
     refine ⟨q1,?_,?_,?_,by have:=hf; simp; omega⟩
     ·rw [← HI.out.nt,ntL_snoc,a1]; simp [PT.nt0]
     ·rcases hrest with ⟨rfl,e⟩ | ⟨h1,h2,h3,h4⟩
      ·exact .inl ⟨rfl,by omega⟩
      ·cases l with
       |nil=>exact absurd rfl h1
       |cons u l =>
        obtain ⟨q',g1,g2,g3⟩:=RSp.cases h4 (by omega)
        exact .inr ⟨u,l,q',rfl,g1,Nat.le_refl _,PT.sp_le g1,g2,g3⟩
     ·have hb2:Below w.heap.size w w1:=Below_kept (ex:=fun _=>False) HI.out.below (Kept.ofBelow a5) hwz (fun _ _ e=>e)
      exact Below_kept hb2 q2 (by omega) (fun x hx e=>by have:=HI.out.list.dv x e; omega)
    have HRW:Hid (∀ w1,Below wr.heap.size wr w1→w1.ownsRow 0 80 1 (.slice ad kids.length acap) kids.length (ptrs (kids.map MT.root))):=hide fun w1 hb=>(HI.out.list.below hb).row
    have hc2:(i = s.size)∨(i < s.size∧peekI s i = 10):=by
     rcases hrest with ⟨_,e⟩ | ⟨_,h2,h3,_⟩
     ·exact .inl e
     ·exact .inr ⟨h2,h3⟩
    clear hI hrow hsp hrest hzl hzv HI HZ
    rcases hc2 with rfl | ⟨his,h10⟩
    ·have e1:((s.size:Int) == (s.size:Int)) = true:=by simp
     go_wp2_with fail
     refine HX.out.mono ?_
     rintro e w1 ⟨T,rfl,b1,b2,b3,b4,b5⟩
     have HOL:=hide (rowAlloc (HRW.out w1 b5) (.cells #[.pointer (some ⟨T.root,0,none⟩)] 80))
     have HB:=hide (And.intro b1 (And.intro b2 (And.intro b3 (And.intro b4 b5))))
     have zz:=b5.size
     clear b1 b2 b3 b4 b5
     go_wp2_with (at_builtin; (refine wpList_append_lies _ (by rfl) _ _ _ (by rfl) 0 80 ii _ 1 8 Tryz.underlying74 hii hz0 hz1 hz2 rfl (by omega) (.slice ad kids.length acap) kids.length (ptrs (kids.map MT.root)) (by rfl) HOL.out ⟨w1.heap.size,0,none⟩ 1 1 [.pointer (some ⟨T.root,0,none⟩)] (by rfl) (by rfl) (World.news_of_block (cs:=#[.pointer (some ⟨T.root,0,none⟩)]) (t:=80) (fr:=(0,0)) (by have:=heap_alloc_new w1 (.cells #[.pointer (some ⟨T.root,0,none⟩)] 80); simpa using this)) (by simp [Value.oneCell']) (by omega) (by unfold maxLen; omega) (by omega) (by simp) (w1.heap.size + 1) (by simp) ?_))
     intro gg cap6 w6 hown6 hgrow6 hat6 hlt6
     obtain ⟨b1,b2,b3,b4,b5⟩:=HB.out
     have HH:=hide (key.out T w1 w6 gg cap6 _ b1 b2 b3 b4 b5 hown6 hgrow6 (by simpa using hat6))
     clear b1 b2 b3 b4 b5 hown6 hgrow6 hat6 key HRW HOL HB
     go_wp2_with fail
     go_roundg (s.size + 1 - (s.size + 1))
     case measure=>omega
     case rel=>exact ⟨s.size + 1,s.size + 1,l,kids ++ [T],by go_num,by go_num,rfl,by omega,by omega,HH.out⟩
    ·have e1:((i:Int) == (s.size:Int)) = false:=by simp; omega
     rw [peekI_at his] at h10
     have e2:(((s[i].toNat:Nat):Int) == 10) = true:=by simp; omega
     have i0:(0:Int) ≤ (i:Int):=by omega
     have i1:(i:Int) < (s.size:Int):=by omega
     clear h10
     go_wp2_with fail
     refine HX.out.mono ?_
     rintro e w1 ⟨T,rfl,b1,b2,b3,b4,b5⟩
     have HOL:=hide (rowAlloc (HRW.out w1 b5) (.cells #[.pointer (some ⟨T.root,0,none⟩)] 80))
     have HB:=hide (And.intro b1 (And.intro b2 (And.intro b3 (And.intro b4 b5))))
     have zz:=b5.size
     clear b1 b2 b3 b4 b5
     go_wp2_with (at_builtin; (refine wpList_append_lies _ (by rfl) _ _ _ (by rfl) 0 80 ii _ 1 8 Tryz.underlying74 hii hz0 hz1 hz2 rfl (by omega) (.slice ad kids.length acap) kids.length (ptrs (kids.map MT.root)) (by rfl) HOL.out ⟨w1.heap.size,0,none⟩ 1 1 [.pointer (some ⟨T.root,0,none⟩)] (by rfl) (by rfl) (World.news_of_block (cs:=#[.pointer (some ⟨T.root,0,none⟩)]) (t:=80) (fr:=(0,0)) (by have:=heap_alloc_new w1 (.cells #[.pointer (some ⟨T.root,0,none⟩)] 80); simpa using this)) (by simp [Value.oneCell']) (by omega) (by unfold maxLen; omega) (by omega) (by simp) (w1.heap.size + 1) (by simp) ?_))
     intro gg cap6 w6 hown6 hgrow6 hat6 hlt6
     obtain ⟨b1,b2,b3,b4,b5⟩:=HB.out
     have HH:=hide (key.out T w1 w6 gg cap6 _ b1 b2 b3 b4 b5 hown6 hgrow6 (by simpa using hat6))
     clear b1 b2 b3 b4 b5 hown6 hgrow6 hat6 key HRW HOL HB
     go_wp2_with fail
     go_roundg (s.size + 1 - (i + 1))
     case measure=>omega
     case rel=>exact ⟨i + 1,i + 1,l,kids ++ [T],by go_num,by go_num,rfl,by omega,by omega,HH.out⟩
end Go.Proofs.YtcckhngbdoiikaaGreat

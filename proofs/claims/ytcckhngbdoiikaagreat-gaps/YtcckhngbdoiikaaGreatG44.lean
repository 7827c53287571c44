import Derived.Test.YtcckhngbdoiikaaGreatG42
import Derived.Deep.RegionWith
import Derived.BigRegion

namespace Go.Proofs.YtcckhngbdoiikaaGreat
open Go.RowKit Go.Deep
set_option linter.unusedVariables false
def leadsInto (x:WebT) (prev:List Bool) (s:Nat):Bool:=(intoF (x.steps.getD s []) prev).isSome
def layerF (x:WebT) (prev:List Bool):List Bool:=(List.range x.token.length).map (fun (s:Nat)=>leadsInto x prev s && !(x.token.getD s false))
def layerAt (x:WebT):Nat→List Bool
 | 0=>x.token
 |d + 1=>layerF x (layerAt x d)
def layersF (x:WebT) (n:Nat):List (List Bool):=(List.range n).map (layerAt x)
theorem layerAt_len (x:WebT):∀ d,(layerAt x d).length = x.token.length
 | 0=>rfl
 |d + 1=>by simp [layerAt,layerF]
theorem layersF_len (x:WebT) (n:Nat):(layersF x n).length = n:=by simp [layersF]
theorem layersF_succ (x:WebT) (n:Nat):layersF x (n + 1) = layersF x n ++ [layerAt x n]:=by simp [layersF,List.range_succ]
theorem layersF_get (x:WebT) (n i:Nat) (h:i < n):(layersF x n).getD i [] = layerAt x i:=by simp [layersF,h]
theorem BoolRows.formL {w:World} {v:Value} {ll:List (List Bool)} {n:Nat} (h:BoolRows w v ll) (hn:ll.length = n):∃ (ad:Option Addr) (cap:Nat),v = .slice ad n cap∧(n = 0∨∃ g,ad = some ⟨g,0,none⟩):=by
 subst hn
 exact RowsOf.form h
theorem Tryz.infoBR3:(Tryz.prog.info? 130).map (fun i=>(i.zero,i.size,i.bytes)) = some (some (.slice none 0 0),1,24):=by kernel_rfl
theorem intoV_none:intoV none = .tuple #[.agg #[.string ⟨#[]⟩,.int .i64 0],.bool false]:=rfl
theorem intoV_some (b q:Nat):intoV (some ⟨b,q⟩) = .tuple #[.agg #[.string (bytesOf [b]),.int .i64 (q:Int)],.bool true]:=rfl
theorem layer_put {x:WebT} {prev l:List Bool} {i:Nat} {v:Bool} (hl:l.length = x.token.length) (hi:i < x.token.length) (h:∀ j,j < i→l.getD j false = (layerF x prev).getD j false) (hv:(layerF x prev).getD i false = v) :
  (l.set i v).length = x.token.length∧∀ j,j < i + 1→(l.set i v).getD j false = (layerF x prev).getD j false:=by
 refine ⟨by simp [hl],fun j hj=>?_⟩
 rw [getD_setB _ _ _ _ (by omega)]
 split
 ·rename_i e; rw [e,hv]
 ·exact h j (by omega)
theorem layer_all {x:WebT} {prev l:List Bool} (hl:l.length = x.token.length) (h:∀ j,j < x.token.length→l.getD j false = (layerF x prev).getD j false):l = layerF x prev:=by
 refine List.ext_getElem (by rw [hl]; simp [layerF]) fun j h1 h2=>?_
 have h3:=h j (by omega)
 simpa [h1,h2] using h3
set_option maxRecDepth 20000 in
set_option maxHeartbeats 3200000 in
theorem layers_any (wb:Nat) (x:WebT) (most:Nat) (w:World) (h:WebAt w wb x) (ho:WebOk x) (hm:most ≤ 100000) :
  Calls Tryz.prog 59 #[.pointer (some ⟨wb,0,none⟩),.int .i64 (most:Int)] w fun e w'=>∃ v,e = .returned v∧BoolRows w' v (layersF x (most + 1))∧(∀ b,v.ownBlock = some b→w.heap.size ≤ b)∧Below w.heap.size w w':=by
 have hlen:=ho.len
 have hst:=ho.states
 have HIN:=hide (fun (W:World) (hb:Below w.heap.size w W) (k:Nat) (mv:Value) (marked:List Bool)=>into_any wb x k mv marked W (h.below hb) ho)
 obtain ⟨tv,sv,hb,ht,hs⟩:=h.ex
 obtain ⟨td,tcap,rfl,htrow⟩:=ht.form
 have c0:=hb.cell 0
 have zb:=hb.lt
 have HT:=hide ht
 have HB:=hide hb
 have hmk:=makeBools x.token.length (by omega)
 have HLEN:=hide hlen
 clear h ho hs hb ht hlen
 go_enter Tryz.func59,Tryz.ntmps59
 go_wp2_with fail
 go_loopg [5,6] most (fun G lv dv wr=>∃ d:Nat,dv = .int .i64 (d:Int)∧1 ≤ d∧d ≤ most + 1∧G = most + 1 - d∧Below w.heap.size w wr∧BoolRows wr lv (layersF x d)∧(∀ b,lv.ownBlock = some b→w.heap.size ≤ b))
 case atStart =>
  refine ⟨1,rfl,by omega,by omega,by omega,Below1 _ _,⟨[.slice td x.token.length tcap],?_,rfl,fun i v hv=>?_⟩,fun b e=>?_⟩
  ·exact ownsRow_mk (cur:=#[.slice td x.token.length tcap]) (by rfl) (Blk.new _ _ _) (Nat.le_refl _) (by unfold maxLen; omega) rfl (by rfl)
  ·cases i with
   |zero =>
    simp only [List.getElem?_cons_zero,Option.some.injEq] at hv
    subst hv
    exact HT.out.below (Below1 _ _)
   |succ i=>simp at hv
  ·cases (Option.some.inj e:w.heap.size = b)
   exact Nat.le_refl _
 case round =>
  obtain ⟨d,rfl,hd1,hd2,rfl,hbw,hL,hO⟩:=hrel
  obtain ⟨ld,lcap,rfl,hlrow⟩:=hL.formL (layersF_len x d)
  by_cases hle:d ≤ most
  ·have e0:decide ((d:Int) ≤ (most:Int)) = true:=by simp; omega
   rcases hlrow with h0 | ⟨lg,rfl⟩
   ·omega
   have k0:=(hbw.cell (p:=⟨wb,0,none⟩) zb).trans c0
   have zw:wb < wr.heap.size:=by have:=hbw.size; omega
   obtain ⟨pv,p0,hP⟩:=(show RowsOf wr 130 (fun w v i=>BRow w v ((layersF x d).getD i [])) (.slice (some ⟨lg,0,none⟩) d lcap) d by have h9:=hL; unfold BoolRows at h9; rw [layersF_len] at h9; exact h9).cell (d - 1) (by omega)
   rw [layersF_get x d (d - 1) (by omega)] at hP
   obtain ⟨pd,pcap,rfl,_⟩:=hP.form
   rw [layerAt_len] at hP p0
   obtain ⟨d',hd'⟩:∃ d':Nat,(d:Int) - 1 = (d':Int):=⟨d - 1,by omega⟩
   have hdd:d - 1 = d':=by omega
   rw [hdd] at p0 hP
   have q0:(0:Int) ≤ (d':Int):=by omega
   have q1:(d':Int) < (d:Int):=by omega
   have zl:lg < wr.heap.size:=by obtain ⟨vs,h9,_⟩:=hL; exact ownsRow_lt h9 lg rfl
   have HDD:=hide hdd
   have HH:Hid (Below w.heap.size w wr∧BoolRows wr (.slice (some ⟨lg,0,none⟩) d lcap) (layersF x d)∧(∀ b,(Value.slice (some ⟨lg,0,none⟩) d lcap).ownBlock = some b→w.heap.size ≤ b)∧BRow wr (.slice pd x.token.length pcap) (layerAt x d')):=⟨hbw,hL,hO,hP⟩
   clear hbw hL hO hP hdd
   obtain ⟨wo,rfl⟩:∃ wo:World,wo = wr:=⟨_,rfl⟩
   go_wp2_with fail
   go_loopg [33] x.token.length (fun G iv wi=>∃ (i:Nat) (l:List Bool),iv = .int .i64 (i:Int)∧i ≤ x.token.length∧G = x.token.length - i∧l.length = x.token.length∧(∀ j,j < i→l.getD j false = (layerF x (layerAt x d')).getD j false)∧Blk wi wo.heap.size (boolsA l) 4∧Below wo.heap.size wo wi)
   case atStart=>exact ⟨0,List.replicate x.token.length false,rfl,by omega,rfl,by simp,fun j hj=>by omega,Blk.new _ _ _,Below1 _ _⟩
   case round =>
    obtain ⟨i,l,rfl,hi,rfl,hll,hsp,hI,hbi⟩:=hrel
    by_cases hlt:i < x.token.length
    ·have e1:decide ((i:Int) < (x.token.length:Int)) = true:=by simp; omega
     rcases htrow with h0 | ⟨tg,rfl⟩
     ·omega
     have hbw2:Below w.heap.size w wr:=HH.out.1.trans (hbi.mono HH.out.1.size)
     have t0:=(HT.out.below hbw2).cellD i hlt
     have i0:(0:Int) ≤ (i:Int):=by omega
     have i1:(i:Int) < (x.token.length:Int):=by omega
     have p0':=(hbi.cell (p:=⟨lg,d',none⟩) zl).trans p0
     have HIN1:=hide (HIN.out wr hbw2 i (.slice pd x.token.length pcap) (layerAt x d') (by rw [HLEN.out]; exact hlt) (HH.out.2.2.2.below hbi) (layerAt_len x d'))
     have hval:(layerF x (layerAt x d')).getD i false = ((intoF (x.steps.getD i []) (layerAt x d')).isSome && !(x.token.getD i false)):=by simp [layerF,hlt,leadsInto]
     generalize hIF:intoF (x.steps.getD i []) (layerAt x d') = F at HIN1 hval
     generalize htk:x.token.getD i false = tk at t0 hval
     have HI:Hid (l.length = x.token.length∧(∀ j,j < i→l.getD j false = (layerF x (layerAt x d')).getD j false)∧Blk wr wo.heap.size (boolsA l) 4∧Below wo.heap.size wo wr∧(layerF x (layerAt x d')).getD i false = (F.isSome && !tk)):=⟨hll,hsp,hI,hbi,hval⟩
     clear hll hsp hI hbi hval hbw2 hIF htk
     go_wp2_with fail
     refine HIN1.out.mono ?_
     rintro e w1 ⟨rfl,hb1⟩
     obtain ⟨r1,r2,r3,r4,r5⟩:=HI.out
     have hI1:=r3.below hb1
     have f0:=hI1.frozen i
     have cI:=boolsA_cellD hI1 i (by rw [r1]; exact hlt)
     have zI:=hI1.lt
     have HI1:Hid (l.length = x.token.length∧(∀ j,j < i→l.getD j false = (layerF x (layerAt x d')).getD j false)∧Blk w1 wo.heap.size (boolsA l) 4∧Below wo.heap.size wo w1∧(layerF x (layerAt x d')).getD i false = (F.isSome && !tk)):=⟨r1,r2,hI1,r4.trans (hb1.mono r4.size),r5⟩
     clear r1 r2 r3 r4 r5 hI1 HI HIN1 hb1 t0 p0'
     cases F with
     |none =>
      have v0:=intoV_none
      go_wp2_with fail
      go_roundg (x.token.length - (i + 1))
      case measure=>omega
      case rel =>
       obtain ⟨r1,r2,r3,r4,r5⟩:=HI1.out
       obtain ⟨s1,s2⟩:=layer_put r1 hlt r2 (show _ = false from r5)
       refine ⟨i + 1,l.set i false,by go_num,by omega,rfl,s1,s2,?_,?_⟩
       ·rw [← boolsA_set]; exact (r3.set i _).alloc _
       ·exact (r4.setCell (p:=⟨wo.heap.size,i,none⟩) (Nat.le_refl _) _).alloc (by simpa using r4.size) _
     |some st =>
      obtain ⟨sb,sq⟩:=st
      cases tk with
      |true =>
       have v0:=intoV_some sb sq
       go_wp2_with fail
       go_roundg (x.token.length - (i + 1))
       case measure=>omega
       case rel =>
        obtain ⟨r1,r2,r3,r4,r5⟩:=HI1.out
        obtain ⟨s1,s2⟩:=layer_put r1 hlt r2 (show _ = false from r5)
        refine ⟨i + 1,l.set i false,by go_num,by omega,rfl,s1,s2,?_,?_⟩
        ·rw [← boolsA_set]; exact (r3.set i _).alloc _
        ·exact (r4.setCell (p:=⟨wo.heap.size,i,none⟩) (Nat.le_refl _) _).alloc (by simpa using r4.size) _
      |false =>
       have v0:=intoV_some sb sq
       go_wp2_with fail
       go_roundg (x.token.length - (i + 1))
       case measure=>omega
       case rel =>
        obtain ⟨r1,r2,r3,r4,r5⟩:=HI1.out
        obtain ⟨s1,s2⟩:=layer_put r1 hlt r2 (show _ = true from r5)
        refine ⟨i + 1,l.set i true,by go_num,by omega,rfl,s1,s2,?_,?_⟩
        ·rw [← boolsA_set]; exact (r3.set i _).alloc _
        ·exact (r4.setCell (p:=⟨wo.heap.size,i,none⟩) (Nat.le_refl _) _).alloc (by simpa using r4.size) _
    ·have e1:decide ((i:Int) < (x.token.length:Int)) = false:=by simp; omega
     obtain rfl:i = x.token.length:=by omega
     have hle9:=layer_all hll hsp
     subst hle9
     obtain ⟨vs,g1,g2,g3⟩:=(HH.out.2.1.below hbi)
     rw [layersF_len] at g1 g2
     obtain ⟨ii,hii,hz0,hz1,hz2⟩:=info_parts Tryz.infoBR3
     have hol:(wr.alloc (.cells #[.slice (some ⟨wo.heap.size,0,none⟩) x.token.length x.token.length] 130)).ownsRow 0 130 1 (.slice (some ⟨lg,0,none⟩) d lcap) d vs:=ownsRow_kept (ex:=fun _=>False) g1 (Kept.ofBelow (Below1 _ _)) (fun _ _ e=>e)
     have HOL:=hide hol
     have hnew:BRow wr (.slice (some ⟨wo.heap.size,0,none⟩) x.token.length x.token.length) (layerF x (layerAt x d')):=by
      have h9:=BRow.ofBlk hI (by rw [hll]; omega)
      rw [hll] at h9
      exact h9
     have HG:Hid (vs.length = d∧(∀ k v,vs[k]? = some v→BRow wr v ((layersF x d).getD k []))∧BRow wr (.slice (some ⟨wo.heap.size,0,none⟩) x.token.length x.token.length) (layerF x (layerAt x d'))∧Below w.heap.size w wr):=⟨g2,g3,hnew,HH.out.1.trans (hbi.mono HH.out.1.size)⟩
     have zz:=hbi.size
     have hO:=HH.out.2.2.1
     have HO:=hide hO
     have zow:=HH.out.1.size
     clear g1 g2 g3 hol hnew hll hsp hI hbi hO HH
     go_wp2_with (at_builtin; (refine wpList_append_lies _ (by rfl) _ _ _ (by rfl) 0 130 ii _ 1 24 Tryz.underlying131 hii hz0 hz1 hz2 rfl (by omega) (.slice (some ⟨lg,0,none⟩) d lcap) d vs (by rfl) HOL.out ⟨wr.heap.size,0,none⟩ 1 1 [.slice (some ⟨wo.heap.size,0,none⟩) x.token.length x.token.length] (by rfl) (by rfl) (World.news_of_block (cs:=#[.slice (some ⟨wo.heap.size,0,none⟩) x.token.length x.token.length]) (t:=130) (fr:=(0,0)) (by have:=heap_alloc_new wr (.cells #[.slice (some ⟨wo.heap.size,0,none⟩) x.token.length x.token.length] 130); simpa using this)) (by simp [Value.oneCell']) (by omega) (by unfold maxLen; omega) (by omega) (by simp) (wr.heap.size + 1) (by simp) ?_))
     intro gg cap6 w6 hown6 hgrow6 hat6 hlt6
     have hk6:Kept (fun y=>(Value.slice (some ⟨lg,0,none⟩) d lcap).ownBlock = some y) (wr.alloc (.cells #[.slice (some ⟨wo.heap.size,0,none⟩) x.token.length x.token.length] 130)) w6:=⟨hgrow6.os,hgrow6.tape,hgrow6.output,hgrow6.size,fun k hk he=>hgrow6.block k hk (fun e=>he e.symm)⟩
     obtain ⟨h1,h2,h3,h4⟩:=HG.out
     have HH6:Hid (Below w.heap.size w w6∧BoolRows w6 (.slice (some ⟨gg,0,none⟩) (d + 1) cap6) (layersF x (d + 1))∧w.heap.size ≤ gg):=by
      refine ⟨?_,⟨vs ++ [.slice (some ⟨wo.heap.size,0,none⟩) x.token.length x.token.length],by rw [layersF_len]; exact hown6,by rw [layersF_len]; simp [h1],fun k v hv=>?_⟩,?_⟩
      ·have k1:Below w.heap.size w (wr.alloc (.cells #[.slice (some ⟨wo.heap.size,0,none⟩) x.token.length x.token.length] 130)):=h4.alloc h4.size _
       exact k1.trans ⟨hk6.os,hk6.tape,hk6.output,hk6.size,fun y hy=>hk6.block y (by have:=k1.size; omega) (fun e=>by have:=HO.out y e; omega)⟩
      ·have hfr:∀ {v':Value} {l':List Bool},BRow wr v' l'→BRow w6 v' l':=fun {v'} {l'} hb'=>by
        have h8:=hb'.below (Below1 wr (.cells #[.slice (some ⟨wo.heap.size,0,none⟩) x.token.length x.token.length] 130))
        exact h8.kept hk6 (own_ne h8 HOL.out (by decide))
       by_cases e:k < d
       ·rw [List.getElem?_append_left (by rw [h1]; exact e)] at hv
        have h9:=hfr (h2 k v hv)
        rw [layersF_get x d k e] at h9
        show BRow w6 v ((layersF x (d + 1)).getD k [])
        rw [layersF_get x (d + 1) k (by omega)]
        exact h9
       ·rw [List.getElem?_append_right (by rw [h1]; omega),h1] at hv
        have hki:k = d:=by
         rcases Nat.lt_or_ge (k - d) 1 with e2 | e2
         ·omega
         ·rw [List.getElem?_eq_none (by simpa using e2)] at hv; cases hv
        subst hki
        simp only [Nat.sub_self,List.getElem?_cons_zero,Option.some.injEq] at hv
        subst hv
        show BRow w6 (.slice (some ⟨wo.heap.size,0,none⟩) x.token.length x.token.length) ((layersF x (k + 1)).getD k [])
        rw [layersF_get x (k + 1) k (by omega)]
        have e9:layerAt x k = layerF x (layerAt x d'):=by rw [← HDD.out,show k = (k - 1) + 1 by omega]; rfl
        rw [e9]
        exact hfr h3
      ·rcases hat6 with e | e
       ·exact HO.out gg e
       ·omega
     clear hk6 hown6 hgrow6 hat6 hlt6 HOL h1 h2 h3 h4 HG HO
     go_wp2_with fail
     go_roundg (most + 1 - (d + 1))
     case measure=>omega
     case rel =>
      refine ⟨d + 1,by go_num,by omega,by omega,rfl,HH6.out.1,HH6.out.2.1,fun b e=>?_⟩
      cases (Option.some.inj e:gg = b)
      exact HH6.out.2.2
  ·have e0:decide ((d:Int) ≤ (most:Int)) = false:=by simp; omega
   obtain rfl:d = most + 1:=by omega
   have HH:Hid (Below w.heap.size w wr∧BoolRows wr (.slice ld (most + 1) lcap) (layersF x (most + 1))∧(∀ b,(Value.slice ld (most + 1) lcap).ownBlock = some b→w.heap.size ≤ b)):=⟨hbw,hL,hO⟩
   clear hbw hL hO
   go_wp2_with fail
   go_ret
   exact ⟨_,rfl,HH.out.2.1,HH.out.2.2,HH.out.1⟩
theorem RowsOf.take {w:World} {ty:TypeId} {P:World→Value→Nat→Prop} {g cap n:Nat} (h:RowsOf w ty P (.slice (some ⟨g,0,none⟩) n cap) n) (k:Nat) (hk:k ≤ n):RowsOf w ty P (.slice (some ⟨g,0,none⟩) k cap) k:=by
 obtain ⟨vs,h1,h2,h3⟩:=h
 refine ⟨vs.take k,?_,by simp; omega,fun i x hx=>?_⟩
 ·obtain ⟨h0,⟨e,_⟩ | ⟨g',cap',cur,e,g2,g3,g4,g5,g6,g7⟩⟩:=h1
  ·cases e
  ·cases e
   refine ⟨by simp; omega,.inr ⟨g,cap,cur,rfl,g2,g3,by omega,g5,g6,?_⟩⟩
   rw [← g7,List.take_take]
   congr 1
   omega
 ·rw [List.getElem?_take] at hx
  split at hx
  ·exact h3 i x hx
  ·cases hx
def farStop (x:WebT) (l:List Bool) (s:Nat):Bool:=leadsInto x l s && (x.token.getD s false || decide (s = 0))
def farD (x:WebT) (LL:List (List Bool)):Nat→Nat × Nat
 | 0=>(0,0)
 |d + 1=>match (List.range x.token.length).find? (farStop x (LL.getD d [])) with
  |some s=>(s,d + 1)
  |none=>farD x LL d
set_option maxRecDepth 20000 in
set_option maxHeartbeats 3200000 in
theorem farthest_any (wb:Nat) (x:WebT) (lv:Value) (LL:List (List Bool)) (w:World) (h:WebAt w wb x) (ho:WebOk x) (hL:BoolRows w lv LL) (hLn:∀ l ∈ LL,l.length = x.token.length) (hm:LL.length ≤ 100001) :
  Calls Tryz.prog 106 #[.pointer (some ⟨wb,0,none⟩),lv] w fun e w'=>e = .returned (.tuple #[.int .i64 ((farD x LL LL.length).1:Int),.int .i64 ((farD x LL LL.length).2:Int)])∧Below w.heap.size w w':=by
 have hst:=ho.states
 have HLEN:=hide ho.len
 have HIN:=hide (fun (W:World) (hb:Below w.heap.size w W) (k:Nat) (mv:Value) (marked:List Bool)=>into_any wb x k mv marked W (h.below hb) ho)
 obtain ⟨tv,sv,hb,ht,hs⟩:=h.ex
 obtain ⟨td,tcap,rfl,htrow⟩:=ht.form
 obtain ⟨ld,lcap,rfl,hlrow⟩:=hL.formL rfl
 have c0:=hb.cell 0
 have zb:=hb.lt
 have HT:=hide ht
 have HL:=hide hL
 have HLN:=hide hLn
 generalize hX:farD x LL LL.length = X
 have HX:=hide hX
 clear h ho hs hb ht hL hLn hX
 go_enter Tryz.func106,Tryz.ntmps106
 go_wp2_with fail
 go_loopg [6] LL.length (fun G dv wr=>∃ d:Nat,dv = .int .i64 (d:Int)∧d ≤ LL.length∧G = d∧farD x LL d = X∧Below w.heap.size w wr)
 case atStart=>exact ⟨LL.length,rfl,Nat.le_refl _,rfl,HX.out,Below.refl _ _⟩
 case round =>
  obtain ⟨d,rfl,hd,hG,hX,hbw⟩:=hrel
  clear HX
  by_cases h0:0 < d
  ·have e0:decide ((0:Int) < (d:Int)) = true:=by simp; omega
   rcases hlrow with h9 | ⟨lg,rfl⟩
   ·omega
   obtain ⟨d',rfl⟩:∃ d',d = d' + 1:=⟨d - 1,by omega⟩
   unfold farD at hX
   obtain ⟨pv,p0,hP⟩:=RowsOf.cell (HL.out.below hbw) d' (by omega)
   have hPl:(LL.getD d' []).length = x.token.length:=HLN.out _ (by rw [List.getD_eq_getElem?_getD,List.getElem?_eq_getElem (by omega)]; exact List.getElem_mem _)
   obtain ⟨pd,pcap,rfl,_⟩:=hP.form
   have k0:=(hbw.cell (p:=⟨wb,0,none⟩) zb).trans c0
   have zw:wb < wr.heap.size:=by have:=hbw.size; omega
   have zl:lg < wr.heap.size:=by obtain ⟨vs,h9,_⟩:=HL.out.below hbw; exact ownsRow_lt h9 lg rfl
   have hd9:((d' + 1:Nat):Int) - 1 = (d':Int):=by omega
   have q0:(0:Int) ≤ (d':Int):=by omega
   have q1:(d':Int) < (LL.length:Int):=by omega
   generalize LL.getD d' [] = row at hP hPl p0 hX
   have HP:=hide hP
   have HPL:=hide hPl
   have HX:=hide hX
   have HB:=hide hbw
   clear hP hPl hX hbw
   obtain ⟨wo,rfl⟩:∃ wo:World,wo = wr:=⟨_,rfl⟩
   go_wp2_with fail
   go_loopg [22] x.token.length (fun G iv wi=>∃ i:Nat,iv = .int .i64 (i:Int)∧i ≤ x.token.length∧G = x.token.length - i∧(∀ j,j < i→farStop x row j = false)∧Below wo.heap.size wo wi)
   case atStart=>exact ⟨0,rfl,by omega,rfl,fun j hj=>by omega,Below.refl _ _⟩
   case round =>
    obtain ⟨i,rfl,hi,rfl,hno,hbi⟩:=hrel
    by_cases hlt:i < x.token.length
    ·have e1:decide ((i:Int) < (x.token.length:Int)) = true:=by simp; omega
     rcases htrow with h9 | ⟨tg,rfl⟩
     ·omega
     have hbw2:Below w.heap.size w wr:=HB.out.trans (hbi.mono HB.out.size)
     have t0:=(HT.out.below hbw2).cellD i hlt
     have i0:(0:Int) ≤ (i:Int):=by omega
     have i1:(i:Int) < (x.token.length:Int):=by omega
     have p0':=(hbi.cell (p:=⟨lg,d',none⟩) zl).trans p0
     have HIN1:=hide (HIN.out wr hbw2 i (.slice pd row.length pcap) row (by rw [HLEN.out]; exact hlt) (HP.out.below hbi) HPL.out)
     have hval:farStop x row i = ((intoF (x.steps.getD i []) row).isSome && (x.token.getD i false || decide (i = 0))):=rfl
     generalize hIF:intoF (x.steps.getD i []) row = F at HIN1 hval
     generalize htk:x.token.getD i false = tk at t0 hval
     have HI:Hid ((∀ j,j < i→farStop x row j = false)∧Below wo.heap.size wo wr∧farStop x row i = (F.isSome && (tk || decide (i = 0)))):=⟨hno,hbi,hval⟩
     clear hno hbi hval hbw2 hIF htk
     go_wp2_with fail
     refine HIN1.out.mono ?_
     rintro e w1 ⟨rfl,hb1⟩
     obtain ⟨r1,r2,r3⟩:=HI.out
     have HI1:Hid ((∀ j,j < i→farStop x row j = false)∧Below wo.heap.size wo w1∧farStop x row i = (F.isSome && (tk || decide (i = 0)))):=⟨r1,r2.trans (hb1.mono r2.size),r3⟩
     have zz1:w.heap.size ≤ w1.heap.size:=by have:=HB.out.size; have:=r2.size; have:=hb1.size; omega
     clear r1 r2 r3 HI HIN1 hb1 t0 p0'
     cases F with
     |none =>
      have v0:=intoV_none
      go_wp2_with fail
      go_roundg (x.token.length - (i + 1))
      case measure=>omega
      case rel =>
       obtain ⟨r1,r2,r3⟩:=HI1.out
       refine ⟨i + 1,by go_num,by omega,rfl,fun j hj=>?_,r2.alloc r2.size _⟩
       by_cases e:j < i
       ·exact r1 j e
       ·rw [show j = i by omega]; exact r3
     |some st =>
      obtain ⟨sb,sq⟩:=st
      have v0:=intoV_some sb sq
      by_cases hs0:tk = true∨i = 0
      ·have hX2:X = (i,d' + 1):=by
        have h9:(List.range x.token.length).find? (farStop x row) = some i:=by
         rw [List.find?_range_eq_some]
         refine ⟨?_,by simpa using hlt,fun j hj=>by simpa using HI1.out.1 j hj⟩
         rw [HI1.out.2.2]
         rcases hs0 with e | e <;> simp [e]
        have h8:=HX.out
        rw [h9] at h8
        exact h8.symm
       have HX2:=hide hX2
       clear hX2
       rcases hs0 with rfl | rfl
       ·go_wp2_with fail
        go_ret2
        have hbb:=HB.out.trans (HI1.out.2.1.mono HB.out.size)
        exact ⟨by rw [HX2.out]; rfl,hbb.alloc hbb.size _⟩
       ·cases tk
        all_goals
         go_wp2_with fail
         go_ret2
         have hbb:=HB.out.trans (HI1.out.2.1.mono HB.out.size)
         exact ⟨by rw [HX2.out]; rfl,hbb.alloc hbb.size _⟩
      ·have htk0:tk = false:=by cases tk <;> simp_all
       subst htk0
       have hi0:i ≠ 0:=fun e=>hs0 (.inr e)
       have e5:((i:Int) == 0) = false:=by simp; omega
       clear hs0
       go_wp2_with fail
       go_roundg (x.token.length - (i + 1))
       case measure=>omega
       case rel =>
        obtain ⟨r1,r2,r3⟩:=HI1.out
        refine ⟨i + 1,by go_num,by omega,rfl,fun j hj=>?_,r2.alloc r2.size _⟩
        by_cases e:j < i
        ·exact r1 j e
        ·rw [show j = i by omega,r3]; simp [hi0]
    ·have e1:decide ((i:Int) < (x.token.length:Int)) = false:=by simp; omega
     obtain rfl:i = x.token.length:=by omega
     have hX3:farD x LL d' = X:=by
      have h9:(List.range x.token.length).find? (farStop x row) = none:=by
       rw [List.find?_range_eq_none]
       intro j hj
       simpa using hno j hj
      have h8:=HX.out
      rw [h9] at h8
      exact h8
     have HX3:=hide hX3
     have HBI:=hide (HB.out.trans (hbi.mono HB.out.size))
     clear hX3 hbi hno
     go_wp2_with fail
     go_roundg d'
     case measure=>omega
     case rel=>exact ⟨d',by go_num,by omega,rfl,HX3.out,HBI.out⟩
  ·have e0:decide ((0:Int) < (d:Int)) = false:=by simp; omega
   obtain rfl:d = 0:=by omega
   have hx:(0,0) = X:=hX
   subst hx
   have HB:=hide hbw
   clear hbw hX
   go_wp2_with fail
   go_ret2
   exact ⟨rfl,HB.out⟩
def walkD (x:WebT) (LL:List (List Bool)):Nat→Nat→List Nat→ByteArray→List Nat × ByteArray
 | 0,_,vis,t=>(vis,t)
 |d + 1,at_,vis,t=>match intoF (x.steps.getD at_ []) (LL.getD d []) with
  |none=>(vis,t)
  |some s=>walkD x LL d s.q (vis ++ [s.q]) (t ++ bytesOf [s.b])
def walkW (x:WebT) (LL:List (List Bool)) (start:Nat):List Nat × ByteArray:=walkD x LL LL.length start [start] ⟨#[]⟩
theorem intoF_in {x:WebT} (ho:WebOk x) {k:Nat} {l:List Bool} {s:StepT} (h:intoF (x.steps.getD k []) l = some s):s.q < x.token.length∧s.b < 256:=by
 have h1:=List.mem_of_find?_eq_some h
 by_cases hk:k < x.steps.length
 ·have hm:x.steps.getD k [] ∈ x.steps:=by rw [List.getD_eq_getElem?_getD,List.getElem?_eq_getElem hk]; exact List.getElem_mem hk
  exact ho.into _ hm s h1
 ·rw [List.getD_eq_getElem?_getD,List.getElem?_eq_none (by omega)] at h1
  simp at h1
theorem bytes1_size (b:Nat):(bytesOf [b]).size = 1:=by rw [bytesOf_size]; rfl
set_option maxRecDepth 20000 in
set_option maxHeartbeats 3200000 in
theorem walkW_any (wb:Nat) (x:WebT) (start:Nat) (lv:Value) (LL:List (List Bool)) (w:World) (h:WebAt w wb x) (ho:WebOk x) (hL:BoolRows w lv LL) (hLn:∀ l ∈ LL,l.length = x.token.length) (hm:LL.length ≤ 100001) (hs:start < x.token.length) :
  Calls Tryz.prog 103 #[.pointer (some ⟨wb,0,none⟩),.int .i64 (start:Int),lv] w fun e w'=>∃ v,e = .returned (.tuple #[v,.string (walkW x LL start).2])∧IRow w' v (natsI (walkW x LL start).1)∧Below w.heap.size w w':=by
 have HLEN:=hide ho.len
 have HINF:=hide (fun (k:Nat) (l:List Bool) (s:StepT) (h9:intoF (x.steps.getD k []) l = some s)=>intoF_in ho h9)
 have HIN:=hide (fun (W:World) (hb:Below w.heap.size w W) (k:Nat) (mv:Value) (marked:List Bool)=>into_any wb x k mv marked W (h.below hb) ho)
 obtain ⟨ld,lcap,rfl,hlrow⟩:=hL.formL rfl
 have HL:=hide hL
 have HLN:=hide hLn
 generalize hX:walkW x LL start = X
 unfold walkW at hX
 have HX:=hide hX
 clear h ho hL hLn hX
 go_enter Tryz.func103,Tryz.ntmps103
 go_wp2_with fail
 go_loopg [8,9,10,11] LL.length (fun G vv tv av dv wr=>∃ (d at_:Nat) (z:Int) (vis:List Nat) (t:ByteArray),dv = .int .i64 z∧z = (d:Int) - 1∧av = .int .i64 (at_:Int)∧at_ < x.token.length∧tv = .string t∧d ≤ LL.length∧G = d∧t.size + d ≤ LL.length∧vis.length + d ≤ LL.length + 1∧walkD x LL d at_ vis t = X∧Below w.heap.size w wr∧IRow wr vv (natsI vis)∧(∀ b,vv.ownBlock = some b→w.heap.size ≤ b))
 case atStart =>
  refine ⟨LL.length,start,_,[start],⟨#[]⟩,rfl,rfl,rfl,hs,rfl,Nat.le_refl _,rfl,by show 0 + _ ≤ _; omega,by simp; omega,HX.out,Below1 _ _,?_,?_⟩
  ·exact ownsRow_mk (cur:=#[.int .i64 (start:Int)]) (by rfl) (Blk.new _ _ _) (Nat.le_refl _) (by unfold maxLen; omega) rfl (by rfl)
  ·intro b e
   cases (Option.some.inj e:w.heap.size = b)
   exact Nat.le_refl _
 case round =>
  obtain ⟨d,at_,z,vis,t,rfl,hz,rfl,hat,rfl,hd,hG,hts,hvl,hX,hbw,hV,hO⟩:=hrel
  clear HX
  obtain ⟨vd,vcap,rfl,hvrow⟩:=hV.formN
  by_cases h0:0 < d
  ·obtain ⟨d',rfl⟩:∃ d',d = d' + 1:=⟨d - 1,by omega⟩
   obtain rfl:z = (d':Int):=by omega
   have e0:decide ((0:Int) ≤ (d':Int)) = true:=by simp
   rcases hlrow with h9 | ⟨lg,rfl⟩
   ·omega
   unfold walkD at hX
   obtain ⟨pv,p0,hP⟩:=RowsOf.cell (HL.out.below hbw) d' (by omega)
   have hPl:(LL.getD d' []).length = x.token.length:=HLN.out _ (by rw [List.getD_eq_getElem?_getD,List.getElem?_eq_getElem (by omega)]; exact List.getElem_mem _)
   obtain ⟨pd,pcap,rfl,_⟩:=hP.form
   have q0:(0:Int) ≤ (d':Int):=by omega
   have q1:(d':Int) < (LL.length:Int):=by omega
   have hfi:=fun s=>HINF.out at_ (LL.getD d' []) s
   generalize LL.getD d' [] = row at hP hPl p0 hX hfi
   have HIN1:=hide (HIN.out wr hbw at_ (.slice pd row.length pcap) row (by rw [HLEN.out]; exact hat) hP hPl)
   generalize intoF (x.steps.getD at_ []) row = F at HIN1 hX hfi
   have HX:=hide hX
   have HH:Hid (Below w.heap.size w wr∧IRow wr (.slice vd vis.length vcap) (natsI vis)∧(∀ b,(Value.slice vd vis.length vcap).ownBlock = some b→w.heap.size ≤ b)):=⟨hbw,hV,hO⟩
   clear hP hPl hX hbw hV hO hz
   go_wp2_with fail
   refine HIN1.out.mono ?_
   rintro e w1 ⟨rfl,hb1⟩
   have HH1:Hid (Below w.heap.size w w1∧IRow w1 (.slice vd vis.length vcap) (natsI vis)∧(∀ b,(Value.slice vd vis.length vcap).ownBlock = some b→w.heap.size ≤ b)):=⟨HH.out.1.trans (hb1.mono HH.out.1.size),HH.out.2.1.below hb1,HH.out.2.2⟩
   clear HH HIN1 hb1 p0
   cases F with
   |none =>
    have v0:=intoV_none
    have hx:(vis,t) = X:=HX.out
    subst hx
    clear hfi
    go_wp2_with fail
    go_ret2
    obtain ⟨r1,r2,r3⟩:=HH1.out
    exact ⟨_,rfl,r2.below (Below1 _ _),r1.alloc r1.size _⟩
   |some st =>
    obtain ⟨sb,sq⟩:=st
    have v0:=intoV_some sb sq
    obtain ⟨hq1,hq2⟩:=hfi ⟨sb,sq⟩ rfl
    simp only at hq1 hq2
    have u1:∀ W:World,(Op.stringOp .add t (bytesOf [sb])).run Tryz.prog W = .ok (.string (t ++ bytesOf [sb])) W:=fun W=>run_string_add_sum W _ _ (by rw [bytes1_size]; omega)
    obtain ⟨ii,hii,hz0,hz1,hz2⟩:=info_parts Tryz.infoI3
    obtain ⟨w2,hw2⟩:∃ w2:World,w1.alloc (.cells #[.string (bytesOf [sb]),.int .i64 (sq:Int)] 186) = w2:=⟨_,rfl⟩
    have hS2:Blk w2 w1.heap.size #[.string (bytesOf [sb]),.int .i64 (sq:Int)] 186:=by rw [← hw2]; exact Blk.new _ _ _
    have HH2:Hid (Below w.heap.size w w2∧IRow w2 (.slice vd vis.length vcap) (natsI vis)∧(∀ b,(Value.slice vd vis.length vcap).ownBlock = some b→w.heap.size ≤ b)∧Blk w2 w1.heap.size #[.string (bytesOf [sb]),.int .i64 (sq:Int)] 186):=by
     obtain ⟨r1,r2,r3⟩:=HH1.out
     exact ⟨by rw [← hw2]; exact r1.alloc r1.size _,by rw [← hw2]; exact r2.below (Below1 _ _),r3,hS2⟩
    have hol:(w2.alloc (.cells #[.int .i64 (sq:Int)] 3)).ownsRow 0 3 1 (.slice vd vis.length vcap) vis.length ((natsI vis).map (Value.int .i64)):=by
     have h9:=HH2.out.2.1.below (Below1 w2 (.cells #[.int .i64 (sq:Int)] 3))
     unfold IRow at h9
     rw [natsI_len] at h9
     exact h9
    have HOL:=hide hol
    have c1:=hS2.cell 1
    have zS:=hS2.lt
    clear hol hfi hS2 HH1
    go_upto_region 9 with fail
    try rw [hw2]
    clear hw2
    go_wp2_with (at_builtin; (refine wpList_append_lies _ (by rfl) _ _ _ (by rfl) 0 3 ii _ 1 8 Tryz.underlying60 hii hz0 hz1 hz2 rfl (by omega) (.slice vd vis.length vcap) vis.length ((natsI vis).map (Value.int .i64)) (by rfl) HOL.out ⟨w2.heap.size,0,none⟩ 1 1 [.int .i64 (sq:Int)] (by rfl) (by rfl) (World.news_of_block (cs:=#[.int .i64 (sq:Int)]) (t:=3) (fr:=(0,0)) (by have:=heap_alloc_new w2 (.cells #[.int .i64 (sq:Int)] 3); simpa using this)) (by simp [Value.oneCell']) (by omega) (by unfold maxLen; omega) (by omega) (by simp) (w2.heap.size + 1) (by simp) ?_))
    intro gg cap6 w6 hown6 hgrow6 hat6 hlt6
    have hk6:Kept (fun y=>(Value.slice vd vis.length vcap).ownBlock = some y) (w2.alloc (.cells #[.int .i64 (sq:Int)] 3)) w6:=⟨hgrow6.os,hgrow6.tape,hgrow6.output,hgrow6.size,fun k hk he=>hgrow6.block k hk (fun e=>he e.symm)⟩
    obtain ⟨r1,r2,r3,r4⟩:=HH2.out
    have hS6:Blk w6 w1.heap.size #[.string (bytesOf [sb]),.int .i64 (sq:Int)] 186:=(r4.alloc _).kept hk6 (fun e=>ownsRow_ne HOL.out (r4.alloc _) (by decide) e)
    have HH6:Hid (Below w.heap.size w w6∧IRow w6 (.slice (some ⟨gg,0,none⟩) (vis.length + 1) cap6) (natsI (vis ++ [sq]))∧w.heap.size ≤ gg):=by
     refine ⟨?_,?_,?_⟩
     ·have k1:Below w.heap.size w (w2.alloc (.cells #[.int .i64 (sq:Int)] 3)):=r1.alloc r1.size _
      exact k1.trans ⟨hk6.os,hk6.tape,hk6.output,hk6.size,fun y hy=>hk6.block y (by have:=k1.size; omega) (fun e=>by have:=r3 y e; omega)⟩
     ·have e9:natsI (vis ++ [sq]) = natsI vis ++ [(sq:Int)]:=by simp [natsI]
      unfold IRow
      rw [e9,List.map_append,List.length_append,natsI_len]
      exact hown6
     ·rcases hat6 with e | e
      ·exact r3 gg e
      ·have:=r1.size; omega
    have c0:=hS6.cell 0
    have zS6:=hS6.lt
    clear hk6 hown6 hgrow6 hat6 hlt6 HOL r1 r2 r3 r4 hS6 HH2 c1
    go_wp2_with fail
    go_roundg d'
    case measure=>omega
    case rel =>
     refine ⟨d',sq,_,vis ++ [sq],t ++ bytesOf [sb],rfl,rfl,rfl,hq1,rfl,by omega,rfl,by rw [ByteArray.size_append,bytes1_size]; omega,by simp; omega,HX.out,HH6.out.1,?_,fun b e=>?_⟩
     ·have:=HH6.out.2.1
      simpa using this
     ·cases (Option.some.inj e:gg = b)
      exact HH6.out.2.2
  ·obtain rfl:d = 0:=by omega
   obtain rfl:z = -1:=by omega
   have hx:(vis,t) = X:=hX
   subst hx
   have HH:Hid (Below w.heap.size w wr∧IRow wr (.slice vd vis.length vcap) (natsI vis)):=⟨hbw,hV⟩
   clear hX hbw hV hO hz
   go_wp2_with fail
   go_ret2
   exact ⟨_,rfl,HH.out.2,HH.out.1⟩
def wasAt (vis:List Nat) (s:Nat):Option Nat:=(List.range s).find? (fun f=>vis.getD f 0 == vis.getD s 0)
def repeatF (vis:List Nat):Nat × Nat:=match (List.range vis.length).find? (fun s=>(wasAt vis s).isSome) with
 |none=>(0,0)
 |some s=>((wasAt vis s).getD 0,s)
theorem wasAt_lt {vis:List Nat} {s f:Nat} (h:wasAt vis s = some f):f < s:=by
 have:=List.mem_of_find?_eq_some h
 simpa using this
theorem repeatF_le (vis:List Nat) (h:0 < vis.length):(repeatF vis).1 ≤ (repeatF vis).2∧(repeatF vis).2 < vis.length:=by
 unfold repeatF
 split
 ·exact ⟨Nat.le_refl _,h⟩
 ·rename_i s hs
  have h1:=List.mem_of_find?_eq_some hs
  have h2:s < vis.length:=by simpa using h1
  refine ⟨?_,h2⟩
  cases hw:wasAt vis s with
  |none=>simp
  |some f=>have:=wasAt_lt hw; simp; omega
set_option maxRecDepth 20000 in
set_option maxHeartbeats 1600000 in
theorem repeat_any (vis:List Nat) (v:Value) (w:World) (h:IRow w v (natsI vis)) (hl:vis.length ≤ 200000) :
  Calls Tryz.prog 104 #[v] w fun e w'=>e = .returned (.tuple #[.int .i64 ((repeatF vis).1:Int),.int .i64 ((repeatF vis).2:Int)])∧Below w.heap.size w w':=by
 obtain ⟨vd,vcap,rfl,hvrow⟩:=h.formN
 have HV:=hide h
 clear h
 go_enter Tryz.func104,Tryz.ntmps104
 go_wp2_with fail
 go_loopg [10] vis.length (fun G sv wr=>∃ s:Nat,sv = .int .i64 (s:Int)∧s ≤ vis.length∧G = vis.length - s∧wr = w∧∀ j,j < s→wasAt vis j = none)
 case atStart=>exact ⟨0,rfl,by omega,rfl,rfl,fun j hj=>by omega⟩
 case round =>
  obtain ⟨s,rfl,hs,rfl,rfl,hno⟩:=hrel
  have HNO:=hide hno
  clear hno
  by_cases hlt:s < vis.length
  ·have e0:decide ((s:Int) < (vis.length:Int)) = true:=by simp; omega
   rcases hvrow with h9 | ⟨vg,rfl⟩
   ·omega
   have c0:=HV.out.cellN s hlt
   have s0:(0:Int) ≤ (s:Int):=by omega
   have s1:(s:Int) < (vis.length:Int):=by omega
   have hcap:vis.length ≤ vcap:=by
    obtain ⟨_,ad9,cap9,e9,⟨h1,h2⟩ | ⟨g9,cur9,h1,h2,h3,_⟩⟩:=ownsRow_form HV.out
    ·rw [natsI_len] at h2; omega
    ·rw [natsI_len] at h3
     injection e9 with e1 e2 e3
     omega
   have s2:(s:Int) ≤ (vcap:Int):=by omega
   obtain ⟨vs,hvs⟩:∃ vs,vis.getD s 0 = vs:=⟨_,rfl⟩
   rw [hvs] at c0
   have HVS:=hide hvs
   clear hcap hvs
   go_wp2_with fail
   go_loopg [19] s (fun G fv wi=>∃ f:Nat,fv = .int .i64 (f:Int)∧f ≤ s∧G = s - f∧wi = wr∧∀ j,j < f→vis.getD j 0 ≠ vis.getD s 0)
   case atStart=>exact ⟨0,rfl,by omega,rfl,rfl,fun j hj=>by omega⟩
   case round =>
    obtain ⟨f,rfl,hf,rfl,rfl,hnf⟩:=hrel
    have HNF:=hide hnf
    clear hnf
    by_cases hfl:f < s
    ·have e1:decide ((f:Int) < (s:Int)) = true:=by simp; omega
     have c1:=HV.out.cellN f (by omega)
     have f0:(0:Int) ≤ (f:Int):=by omega
     have f1:(f:Int) < (s:Int):=by omega
     obtain ⟨vf,hvf⟩:∃ vf,vis.getD f 0 = vf:=⟨_,rfl⟩
     rw [hvf] at c1
     have HVF:=hide hvf
     clear hvf
     by_cases heq:vf = vs
     ·have e2:((vf:Int) == (vs:Int)) = true:=by rw [heq]; simp
      have hwas:wasAt vis s = some f:=by
       unfold wasAt
       rw [List.find?_range_eq_some]
       exact ⟨by rw [HVF.out,HVS.out,heq]; simp,by simpa using hfl,fun j hj=>by simpa using HNF.out j hj⟩
      have hrep:repeatF vis = (f,s):=by
       have h9:(List.range vis.length).find? (fun s=>(wasAt vis s).isSome) = some s:=by
        rw [List.find?_range_eq_some]
        exact ⟨by rw [hwas]; rfl,by simpa using hlt,fun j hj=>by rw [HNO.out j hj]; rfl⟩
       unfold repeatF
       rw [h9]
       simp [hwas]
      have HREP:=hide hrep
      clear hwas hrep
      subst heq
      go_wp2_with fail
      go_ret2
      exact ⟨by rw [HREP.out]; rfl,Below.refl _ _⟩
     ·have e2:((vf:Int) == (vs:Int)) = false:=by
       rw [beq_eq_false_iff_ne]
       intro e
       exact heq (by omega)
      have HEQ:=hide heq
      go_wp2_with fail
      go_roundg (s - (f + 1))
      case measure=>omega
      case rel =>
       refine ⟨f + 1,by go_num,by omega,rfl,rfl,fun j hj=>?_⟩
       by_cases e:j < f
       ·exact HNF.out j e
       ·rw [show j = f by omega,HVF.out,HVS.out]; exact HEQ.out
    ·have e1:decide ((f:Int) < (s:Int)) = false:=by simp; omega
     obtain rfl:f = s:=by omega
     go_wp2_with fail
     go_roundg (vis.length - (f + 1))
     case measure=>omega
     case rel =>
      refine ⟨f + 1,by go_num,by omega,rfl,rfl,fun j hj=>?_⟩
      by_cases e:j < f
      ·exact HNO.out j e
      ·rw [show j = f by omega]
       unfold wasAt
       rw [List.find?_range_eq_none]
       intro i hi
       simpa using HNF.out i hi
  ·have e0:decide ((s:Int) < (vis.length:Int)) = false:=by simp; omega
   obtain rfl:s = vis.length:=by omega
   have hrep:repeatF vis = (0,0):=by
    have h9:(List.range vis.length).find? (fun s=>(wasAt vis s).isSome) = none:=by
     rw [List.find?_range_eq_none]
     intro i hi
     rw [HNO.out i hi]; rfl
    unfold repeatF
    rw [h9]
   have HREP:=hide hrep
   clear hrep
   go_wp2_with fail
   go_ret2
   exact ⟨by rw [HREP.out]; rfl,Below.refl _ _⟩
end Go.Proofs.YtcckhngbdoiikaaGreat

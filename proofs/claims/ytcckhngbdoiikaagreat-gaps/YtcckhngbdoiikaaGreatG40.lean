import Derived.Test.YtcckhngbdoiikaaGreatG38
import Derived.Test.YtcckhngbdoiikaaGreatG39
import Derived.Test.YtcckhngbdoiikaaGreatG25
import Derived.Deep.RegionWith

namespace Go.Proofs.YtcckhngbdoiikaaGreat
open Go.RowKit Go.Deep
set_option linter.unusedVariables false
def RefP (s:ByteArray) (w:World) (b:Nat):Prop:=∀ kd g,newF s = .lexer kd g→∃ TX,RLexP w b kd g TX
theorem RefP.below (s:ByteArray) (w w':World) (b:Nat) (h:RefP s w b) (k:Below w.heap.size w w'):RefP s w' b:=fun kd g hn=>by
 obtain ⟨TX,h1⟩:=h kd g hn
 exact ⟨TX,h1.below k⟩
theorem newF_long {s:ByteArray} (h:120 < s.size):newF s = .bad 1 0:=by unfold newF; rw [if_pos h]
theorem newF_bad {s:ByteArray} (h:s.size ≤ 120) (h2:(allF s).1 = false):newF s = .bad 2 (allF s).2.1:=by unfold newF; rw [if_neg (by omega),if_pos h2]
theorem newF_many {s:ByteArray} (h:s.size ≤ 120) (h2:(allF s).1 = true) (h3:exploreF (allF s).2.2 (kindsAt (allF s).2.2.allow 256) = none):newF s = .bad 3 0:=by
 unfold newF; rw [if_neg (by omega),if_neg (by simp [h2])]
 unfold buildF
 rw [h3]
theorem newF_lexer {s:ByteArray} {g:Graph} (h:s.size ≤ 120) (h2:(allF s).1 = true) (h3:exploreF (allF s).2.2 (kindsAt (allF s).2.2.allow 256) = some g):newF s = .lexer (kindOf (allF s).2.2.allow) (numG g):=by
 unfold newF; rw [if_neg (by omega),if_neg (by simp [h2])]
 unfold buildF
 rw [h3]
 rfl
set_option maxHeartbeats 1600000 in
theorem refNew_long (s:ByteArray) (h:120 < s.size):RefNewC (RefP s) s:=by
 intro w
 rw [newF_long h]
 have HF:=hide (refFits_any s w)
 have e0:decide (s.size ≤ 120) = false:=by simp; omega
 rw [e0] at HF
 clear h e0
 go_enter Tryz.func12,Tryz.ntmps12
 go_wp2_with fail
 refine HF.out.mono ?_
 rintro e w1 ⟨rfl,rfl⟩
 go_wp2_with fail
 go_ret3
 exact ⟨Below.refl _ _,rfl⟩
set_option maxHeartbeats 1600000 in
theorem refNew_bad (s:ByteArray) (h:s.size ≤ 120) (h2:(allF s).1 = false):RefNewC (RefP s) s:=by
 intro w
 rw [newF_bad h h2]
 have HF:=hide (refFits_any s w)
 have e0:decide (s.size ≤ 120) = true:=by simp [h]
 rw [e0] at HF
 have HP:=hide (refPlace_any s w h)
 rw [place_all s,if_neg (by simp [h2])] at HP
 generalize (allF s).2.1 = p at HP ⊢
 have e1:decide ((0:Int) ≤ (p:Int)) = true:=by simp
 clear h e0 h2
 go_enter Tryz.func12,Tryz.ntmps12
 go_wp2_with fail
 refine HF.out.mono ?_
 rintro e w1 ⟨rfl,rfl⟩
 go_wp2_with fail
 refine HP.out.mono ?_
 rintro e w1 ⟨rfl,hb⟩
 go_wp2_with fail
 go_ret3
 exact ⟨hb,rfl⟩
set_option maxRecDepth 20000 in
set_option maxHeartbeats 12800000 in
theorem refNew_good (s:ByteArray) (hs:s.size ≤ 120) (h2:(allF s).1 = true):RefNewC (RefP s) s:=by
 intro w
 obtain ⟨X,hX⟩:∃ X,newF s = X:=⟨_,rfl⟩
 rw [hX]
 have HNX:=hide hX
 clear hX
 have HF:=hide (refFits_any s w)
 have e0:decide (s.size ≤ 120) = true:=by simp [hs]
 rw [e0] at HF
 have HP:=hide (refPlace_any s w hs)
 rw [place_all s,if_pos h2] at HP
 obtain ⟨ts,hrd,htw⟩:=read_tw h2 hs
 have hparts:=RSp.parts_le ts 0 hrd.sp (Nat.zero_le _)
 have HRU:=hide (fun w=>refRules_any s ts w hs hrd.sp)
 have HS:=hide (And.intro hs (And.intro h2 (And.intro hrd (And.intro htw hparts))))
 have e1:decide ((0:Int) ≤ -1) = false:=by simp
 clear hs h2 e0 hrd htw hparts
 go_enter Tryz.func12,Tryz.ntmps12
 go_wp2_with fail
 refine HF.out.mono ?_
 rintro e w0 ⟨rfl,hw0⟩
 obtain rfl:=hw0.symm
 go_wp2_with fail
 refine HP.out.mono ?_
 rintro e w1 ⟨rfl,hb1⟩
 have HRU1:=hide (HRU.out w1)
 clear HRU HP HF
 go_wp2_with fail
 refine HRU1.out.mono ?_
 rintro e w2 ⟨v,kids,rfl,hLP,hnt,hb2,hkl⟩
 obtain ⟨_,vd,vcap,rfl,hvr⟩:=ownsRow_form hLP.row
 have hpk:partsL (ntL kids) ≤ 1000:=by rw [hnt]; have:=HS.out.2.2.2.2; have:=HS.out.1; omega
 have hkne:kids ≠ []:=by
  intro e
  subst e
  have:=HS.out.2.2.1.sp
  have e2:ts = []:=by simpa [ntL] using hnt.symm
  rw [e2] at this
  exact this
 have hk0:0 < kids.length:=List.length_pos_iff.2 hkne
 rcases hvr with ⟨_,e⟩ | ⟨vg,vc,rfl,_⟩
 ·omega
 have hwf:WfL s (ntL kids):=by rw [hnt]; exact RSp.wf ts 0 HS.out.2.2.1.sp
 have hb12:Below w1.heap.size w1 w2:=hb2
 have hBw:Below w.heap.size w w2:=hb1.trans (hb2.mono hb1.size)
 have hNI:NI w2.heap.size (w2.alloc (.cells #[.slice (some ⟨vg,0,none⟩) kids.length vcap,.int .i64 0,.slice none 0 0,.slice none 0 0,.slice none 0 0,.slice none 0 0] 78)) s w2.heap.size (.slice (some ⟨vg,0,none⟩) kids.length vcap) (.slice none 0 0) kids 0 0 :=
  ⟨Blk.new _ _ _,rowAl hLP.row _,AtL.kept (ex:=fun _=>False) (Kept.ofBelow (Below1 _ _)) _ hLP.kidsAt (fun _ _ e=>e),World.ownsRow_nil _ _ _ _,fun x hx=>AtL.lt _ hLP.kidsAt x hx,fun x hx=>ownsRow_lt hLP.row x hx,Nat.le_refl _,fun x hx=>by simp [Value.ownBlock] at hx⟩
 have HKO:Hid (∀ x,hasL kids x→w.heap.size ≤ x):=hide fun x hx=>Nat.le_trans hb1.size (hLP.own x hx).1
 have hzw2:w.heap.size ≤ w2.heap.size:=hBw.size
 have HN0:=hide (And.intro hNI (And.intro hBw (And.intro hwf (And.intro hLP.nodup (And.intro hnt hkne)))))
 clear hNI hBw hwf hnt hkne hLP hb1 hb2 hb12 HRU1
 go_wp2_with fail
 go_loopg [8] kids.length (fun G rv wr=>∃ (r:Nat) (pv:Value),rv = .int .i64 (r:Int)∧r ≤ kids.length∧G = kids.length - r∧NI w2.heap.size wr s w2.heap.size (.slice (some ⟨vg,0,none⟩) kids.length vcap) pv kids r r∧Below w.heap.size w wr)
 case atStart=>exact ⟨0,_,rfl,by omega,rfl,HN0.out.1,HN0.out.2.1.alloc HN0.out.2.1.size _⟩
 case round =>
  obtain ⟨r,pv,rfl,hr,rfl,hI,hB⟩:=hrel
  have c0:wr.cell? ⟨w2.heap.size,0,none⟩ = some (.slice (some ⟨vg,0,none⟩) kids.length vcap):=hI.blk.cell 0
  have zx:=hI.blk.lt
  by_cases hlt:r < kids.length
  ·have e2:decide ((r:Int) < (kids.length:Int)) = true:=by simp; omega
   have cg:wr.cell? ⟨vg,r,none⟩ = some (.pointer (some ⟨kids[r].root,0,none⟩)):=by rw [ownsRow_cell hI.row r (by omega)]; simp [ptrs,hlt]
   have r0:(0:Int) ≤ (r:Int):=by omega
   have r1:(r:Int) < (kids.length:Int):=by omega
   have c1:wr.cell? ⟨w2.heap.size,1,none⟩ = some (.int .i64 ((partsL (ntL (kids.take r)):Nat):Int)):=hI.blk.cell 1
   have f1:=hI.blk.frozen 1
   have hps:partsL (ntL (kids.take (r + 1))) = partsL (ntL (kids.take r)) + kids[r].nt.parts:=by rw [show kids.take (r + 1) = kids.take r ++ [kids[r]] from (List.take_append_getElem hlt).symm,partsL_snoc]
   have hle:partsL (ntL (kids.take (r + 1))) ≤ partsL (ntL kids):=by
    have:=partsL_append (ntL (kids.take (r + 1))) (ntL (kids.drop (r + 1)))
    have e:ntL kids = ntL (kids.take (r + 1)) ++ ntL (kids.drop (r + 1)):=by rw [ntL_map,ntL_map,ntL_map,← List.map_append,List.take_append_drop]
    rw [e,this]; omega
   have hkm:=List.getElem_mem hlt
   have HNU:Hid (∀ W,Below wr.heap.size wr W→Calls Tryz.prog 26 #[.pointer (some ⟨kids[r].root,0,none⟩),.int .i64 ((partsL (ntL (kids.take r)):Nat):Int)] W fun e w'=>e = .returned (.int .i64 ((partsL (ntL (kids.take r)) + kids[r].nt.parts:Nat):Int))∧(∀ U:MT,U.At W s (numL (kids.take r) 0 zeroI)→U.At w' s (kids[r].num (partsL (ntL (kids.take r))) (numL (kids.take r) 0 zeroI)))∧Kept (fun x=>x ∈ kids[r].blks) W w') :=
    hide fun W k=>num_all kids[r] W s _ _ ((AtL_iff kids).1 (hI.below k).prt _ hkm) (by omega)
   have hpn:partsL (ntL (kids.take r)) + kids[r].nt.parts ≤ 1000:=by omega
   have HI:=hide (And.intro hI hB)
   have HXB:Hid (∀ w5,Kept (fun x=>x ∈ kids[r].blks) wr.drew w5→Blk w5 w2.heap.size #[.slice (some ⟨vg,0,none⟩) kids.length vcap,.int .i64 ((partsL (ntL (kids.take r)):Nat):Int),pv,.slice none 0 0,.slice none 0 0,.slice none 0 0] 78):=hide fun w5 k=>(hI.below (Below_drew' wr)).blk.kept k (fun hx=>by
    have:=hI.klt _ ((hasL_iff kids _).2 ⟨kids[r],hkm,MT.blks_has _ _ hx⟩)
    omega)
   clear hI hB hps hle
   obtain ⟨rt,hrt⟩:∃ rt,kids[r].root = rt:=⟨_,rfl⟩
   obtain ⟨pn,hpn0⟩:∃ pn,partsL (ntL (kids.take r)) = pn:=⟨_,rfl⟩
   obtain ⟨pm,hpm0⟩:∃ pm,kids[r].nt.parts = pm:=⟨_,rfl⟩
   have HPN:=hide hpn0
   have HPM:=hide hpm0
   rw [hpn0] at c1 HXB
   rw [hpn0,hpm0] at HNU hpn
   rw [hrt] at HNU cg
   clear hpn0 hpm0 hrt
   go_upto_region 11 with fail
   go_cut [] (fun wx=>NI w2.heap.size wx s w2.heap.size (.slice (some ⟨vg,0,none⟩) kids.length vcap) pv kids (r + 1) r∧Below w.heap.size w wx)
   case first =>
    go_region_with (go_at_call 26; refine (HNU.out _ (Below_drewQ (Below.refl _ _))).mono ?_; rintro e w5 ⟨rfl,hU5,hk5⟩; have q1:w5.cell? ⟨w2.heap.size,1,none⟩ = some (.int .i64 (pn:Int)):=(HXB.out w5 hk5).cell 1; have q2:=(HXB.out w5 hk5).frozen 1; have q3:=(HXB.out w5 hk5).lt; have HU5:=hide (And.intro hU5 hk5); clear hU5 hk5)
    all_goals
     go_wp2_with fail
     go_meet
     obtain ⟨u1,u2⟩:=HU5.out
     have u3:=(HI.out.1.below (Below_drew' wr)).num hlt (by rw [HPN.out]; exact u1) u2
     rw [HPN.out,HPM.out] at u3
     refine ⟨u3,(Below_kept (Below_drewQ HI.out.2) u2 HI.out.2.size (fun x hx hb=>?_)).setCell (p:=⟨w2.heap.size,1,none⟩) hzw2 _⟩
     have:=HKO.out x ((hasL_iff kids x).2 ⟨kids[r],hkm,MT.blks_has _ _ hb⟩)
     omega
   case rest =>
    obtain ⟨hI2,hB2⟩:=hcut
    clear HNU HXB c1 f1 cg c0 zx HI
    have c0:wc.cell? ⟨w2.heap.size,0,none⟩ = some (.slice (some ⟨vg,0,none⟩) kids.length vcap):=hI2.blk.cell 0
    have zx:=hI2.blk.lt
    have cg:wc.cell? ⟨vg,r,none⟩ = some (.pointer (some ⟨kids[r].root,0,none⟩)):=by rw [ownsRow_cell hI2.row r (by omega)]; simp [ptrs,hlt]
    have hko:=MT.wf_kind kids[r] ((WfL_iff (ntL kids)).1 HN0.out.2.2.1 _ (by rw [ntL_map]; exact List.mem_map_of_mem hkm))
    have hk9:(match kids[r] with | .place ..=>True | .node _ _ k _=>0 < k):=by
     cases hh:kids[r] with
     |place=>trivial
     |node b v k l=>rw [hh] at hko; simp only [MT.KindOk] at hko; show 0 < k; omega
    have HPL:=hide (pl_all kids[r] hko wc s _ ((AtL_iff kids).1 hI2.prt _ hkm) hk9 (by rw [HPM.out]; omega))
    obtain ⟨_,pd,pcap,e',_⟩:=ownsRow_form hI2.pls
    subst e'
    have hsz:(plL (kids.take r)).length + kids[r].pl.length ≤ 1000:=by
     have h1:=plL_len kids
     have e:kids = kids.take (r + 1) ++ kids.drop (r + 1):=(List.take_append_drop _ _).symm
     have htk:plL (kids.take (r + 1)) = plL (kids.take r) ++ kids[r].pl:=by rw [(List.take_append_getElem hlt).symm,plL_append]; simp [plL]
     rw [e,plL_append,htk] at h1
     rw [← e] at h1
     simp only [List.length_append] at h1
     omega
    have HI2:=hide (And.intro hI2 hB2)
    clear hI2 hB2 hko hk9
    go_wp2_with fail
    refine HPL.out.mono ?_
    rintro e w5 ⟨v1,rfl,q1,q2,q3⟩
    have hI5:=HI2.out.1.below q3
    have hB5:Below w.heap.size w w5:=HI2.out.2.trans (q3.mono HI2.out.2.size)
    have c2:w5.cell? ⟨w2.heap.size,2,none⟩ = some (.slice pd (plL (kids.take r)).length pcap):=hI5.blk.cell 2
    have z5:=hI5.blk.lt
    have ha1:w5.ownsRow 0 80 1 (.slice pd (plL (kids.take r)).length pcap) ((plL (kids.take r)).map MT.root).length (ptrs ((plL (kids.take r)).map MT.root)):=by rw [List.length_map]; exact hI5.pls
    have hb1:w5.ownsRow 0 80 1 v1 (kids[r].pl.map MT.root).length (ptrs (kids[r].pl.map MT.root)):=by rw [List.length_map]; exact q1
    have hsz2:((plL (kids.take r)).map MT.root).length + (kids[r].pl.map MT.root).length ≤ 4000000:=by rw [List.length_map,List.length_map]; omega
    have hlo5:w2.heap.size ≤ w5.heap.size:=by omega
    have HA1:=hide (And.intro ha1 (And.intro hb1 hI5.plo))
    have H5:=hide (And.intro hI5 hB5)
    clear ha1 hb1 hI5 hB5 q1 q2 q3 HPL cg c0
    generalize hpll:(plL (kids.take r)).length = pll at c2 HA1 hsz H5
    have HPLL:=hide hpll
    clear hpll
    go_wp2_with (at_builtin; (refine appendPrt (la:=(plL (kids.take r)).map MT.root) (ll:=kids[r].pl.map MT.root) (va:=.slice pd pll pcap) (vl:=v1) (by rfl) _ _ (by rfl) (by rfl) (by rfl) HA1.out.1 HA1.out.2.1 w2.heap.size hlo5 HA1.out.2.2 hsz2 ?_))
    intro v6 w6 r1 r2 r3
    obtain ⟨d6,m6,cap6,e6,hm6⟩:∃ d6 m6 cap6,v6 = .slice d6 m6 cap6∧m6 ≤ 1000:=by
     obtain ⟨_,d6,cap6,e,_⟩:=ownsRow_form r1
     exact ⟨_,_,_,e,by rw [HPLL.out]; exact hsz⟩
    subst e6
    have b6:=H5.out.1.blk.kept r3 (fun e=>ownsRow_ne H5.out.1.pls H5.out.1.blk (by decide) e)
    have c6:w6.cell? ⟨w2.heap.size,2,none⟩ = some (.slice pd pll pcap):=b6.cell 2
    have f6:=b6.frozen 2
    have z6:=b6.lt
    have HR:=hide (And.intro (H5.out.1.app hlt (by simpa using r1) r2 r3) (Below_kept H5.out.2 r3 H5.out.2.size (fun x hx e=>by have:=H5.out.1.plo x e; omega)))
    clear r1 r2 r3 b6 hsz2
    go_wp2_with fail
    go_roundg (kids.length - (r + 1))
    case measure=>omega
    case rel=>exact ⟨r + 1,_,by go_num,by omega,rfl,HR.out.1,HR.out.2.setCell (p:=⟨w2.heap.size,2,none⟩) hzw2 _⟩
  ·obtain rfl:r = kids.length:=by omega
   have e2:decide ((kids.length:Int) < (kids.length:Int)) = false:=by simp
   obtain ⟨k1,k2,hwf,hnd,hnt,hkne⟩:=HN0.out
   obtain ⟨hs,h2,hrd,htw,hparts⟩:=HS.out
   obtain ⟨l1,l2,l3⟩:=hI.lex hnd hwf hs (by omega) hkne
   have hpl:(plTs s kids).length ≤ 1000:=by rw [plTs_len]; have:=plL_len kids; omega
   have HLO:=hide (lowest_any (plTs s kids) w2.heap.size wr l2 hpl)
   have HL:=hide (And.intro l1 (And.intro l3 hB))
   clear hI hB l1 l2 l3 k1 k2 hwf hnd hnt hkne hs h2 hrd htw hparts hpl
   go_wp2_with fail
   refine HLO.out.mono ?_
   rintro e w3 ⟨v3,low,rfl,hrow,hlen,hlow,_,hb3⟩
   have hFC:FCtx w3 w2.heap.size s _ kids ts _ v3 low:=⟨HL.out.1.below hb3,HN0.out.2.2.2.2.1,HS.out.2.2.1,hrow,hlen,fun b hb=>by
    obtain ⟨k,q1,q2⟩:=hlow b hb
    exact ⟨k,q1,low_is HN0.out.2.2.2.2.1 HS.out.2.2.2.1 q2⟩⟩
   have HFI:=hide (refFind_any _ _ _ _ _ _ _ _ _ hFC)
   have HB3:=hide hb3
   clear hrow hlen hlow hb3 hFC HLO
   go_wp2_with fail
   refine HFI.out.mono ?_
   rintro e w4 ⟨v4,rfl,hout,hb4⟩
   have hB4:Below w.heap.size w w4:=(HL.out.2.2.trans (HB3.out.mono HL.out.2.2.size)).trans (hb4.mono (Nat.le_trans HL.out.2.2.size HB3.out.size))
   rcases hout with ⟨rfl,hnone⟩ | ⟨fb,tv,sv,ov,T,S,To,PS,g,rfl,hFA,hFP,hsome⟩
   ·have HE:=hide (And.intro hnone hB4)
    clear hnone hB4 hb4 HFI
    go_wp2_with fail
    go_ret3
    rw [← HNX.out,newF_many HS.out.1 HS.out.2.1 HE.out.1]
    exact ⟨HE.out.2,rfl⟩
   ·have hgp:=hFP.gp HS.out.2.2.1 HN0.out.2.2.2.2.1 hsome
    have hsg:=hFP.setsG hsome
    have HST:=hide (refStates_any w2.heap.size fb _ _ s _ kids tv sv ov T S To g _ _ w4 ((HL.out.1.below HB3.out).below hb4) hFA hgp hsg rfl _ _ _ ((HL.out.2.1.below HB3.out).below hb4))
    have HE:=hide (And.intro hsome (And.intro hB4 (And.intro hsg hgp)))
    clear hsome hB4 hb4 HFI hgp hsg hFA hFP
    go_wp2_with fail
    refine HST.out.mono ?_
    rintro e w5 ⟨rfl,hso⟩
    have HSO:=hide hso
    clear hso HST
    go_wp2_with fail
    go_ret3
    obtain ⟨F,xt,xo,xf,OX,FX,o1,o2,o3⟩:=HSO.out
    obtain ⟨d1,d2,d3,d4⟩:=HE.out
    have hnl:=newF_lexer HS.out.1 HS.out.2.1 d1
    have hle:=o1.len d3
    have hok:=newF_lexOk hnl
    refine ⟨Below_kept d2 o2.kept d2.size (fun x hx e=>by omega),?_⟩
    rw [← HNX.out,hnl]
    refine ⟨w2.heap.size,rfl,fun kd' g' hn'=>?_⟩
    rw [hnl] at hn'
    injection hn' with n1 n2
    subst n1 n2
    refine ⟨txts T F F.length,⟨_,_,_,_,_,_,OX,FX,o2.x,?_⟩,?_,?_,hok.2⟩
    ·have e9:(numG g).rule.length = F.length:=hle.symm
     rw [e9]; exact o3
    ·rw [txts_len T F (Nat.le_refl _)]; exact hle
    ·have e9:(numG g).rule.length = F.length:=hle.symm
     rw [e9]
     have hm0:0 ∈ F:=(o1.mem 0).2 ⟨⟨d4.top.1,.inl rfl⟩,fun b hb=>by omega⟩
     have hl9:=nodup_len g.rule.length F (o1.sorted.imp (fun hab=>Nat.ne_of_lt hab)) (fun x hx=>((o1.mem x).1 hx).1.1)
     have:=d4.top.2
     exact ⟨List.length_pos_of_mem hm0,by omega⟩
theorem refNew_any (s:ByteArray):RefNewC (RefP s) s:=by
 by_cases h:120 < s.size
 ·exact refNew_long s h
 ·by_cases h2:(allF s).1 = true
  ·exact refNew_good s (by omega) h2
  ·exact refNew_bad s (by omega) (by simpa using h2)
structure PairAt (w:World) (pb xb yb:Nat) (kd:Nat→Nat) (g:Graph) (TX:List ByteArray):Prop where
 blk:Blk w pb #[.pointer (some ⟨xb,0,none⟩),.pointer (some ⟨yb,0,none⟩)] 33
 lex:LexAt w xb kd g
 ok:LexOk kd g
 ref:RLexP w yb kd g TX
theorem known_any (w:World):Calls Tryz.prog 5 #[] w fun e w'=>e = .returned (.bool true)∧Below w.heap.size w w':=known_x (RefP sureText) (RefP.below sureText) (refNew_any sureText) w
def MadeA (w':World) (e:Ending):NewT→Prop
 | .bad c a=>e = .returned (.tuple #[.pointer none,.bool true])
 | .lexer kd g=>∃ pb xb yb TX,e = .returned (.tuple #[.pointer (some ⟨pb,0,none⟩),.bool true])∧PairAt w' pb xb yb kd g TX
theorem made_any (s:ByteArray) (hm:s.size ≤ maxLen) (w:World):Calls Tryz.prog 6 #[.string s] w fun e w'=>Below w.heap.size w w'∧MadeA w' e (newF s) :=
 (made_x (RefP s) (RefP.below s) s hm (refNew_any s) w).mono fun e w' hh=>by
  refine ⟨hh.1,?_⟩
  have h2:=hh.2
  cases hX:newF s with
  |bad c a=>rw [hX] at h2; exact h2
  |lexer kd g =>
   rw [hX] at h2
   obtain ⟨pb,xb,yb,e1,e2,e3,e4⟩:=h2
   obtain ⟨TX,e5⟩:=e4 kd g hX
   exact ⟨pb,xb,yb,TX,e1,e2,e3,(newF_lexOk hX).1,e5⟩
end Go.Proofs.YtcckhngbdoiikaaGreat

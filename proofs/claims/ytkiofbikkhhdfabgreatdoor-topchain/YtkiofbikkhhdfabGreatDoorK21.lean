import Derived.Test.YtkiofbikkhhdfabGreatDoorK19
import Derived.Test.YtkiofbikkhhdfabGreatDoorU4
import Derived.Test.YtkiofbikkhhdfabGreatDoorK20
set_option maxRecDepth 100000
set_option maxHeartbeats 16000000
namespace Go.Proofs.YtkiofbikkhhdfabGreatDoor.To
open Go.RowKit
open Utf1
theorem five_newd (w:World) (a b c d e:Value) (t:TypeId):∀ (j:Nat) (u:Value),[a,b,c,d,e][j]?=some u->(w.alloc (.cells #[a,b,c,d,e] t)).drew.cell? ((⟨w.heap.size,0,none⟩:Addr).add j)=some u:=fun j u h=>five_new w a b c d e t j u h
theorem grown_drew {w w1:World}{row:Option Nat}(h:w.drew.grownBy w1 row):w.grownBy w1 row:=⟨h.os,h.tape,h.output,h.size,h.block⟩
theorem withRaw_any (s:ByteArray) (w:World) (base m cap g:Nat) (l:List (Tk × Value)) (t:Tk) (av:Value)(hm:m<=4294967280)(hs:s.size<=4294967280)(htn:t.name.length<=4294967280)(hg:Glob w)(hgm:GlobM w)(hbase:base<=w.heap.size)(hl:l.length=m)(h:ToksAt w base (.slice (some ⟨g,0,none⟩) (m+1) cap) (l++[(t,av)])) :
  Calls Tryz.prog 51 #[.slice (some ⟨g,0,none⟩) (m+1) cap,.string s] w fun e w'=>∃ v',e=.returned (.tuple #[v',.string ⟨(withRaw t (bl s)).2.toArray⟩])/\∃ l',l'.map Prod.fst=(withRaw t (bl s)).1/\ToksAt w' base v' (l++[(t,av)]++l')/\Below base w w':=by
 obtain⟨ap,am,ac,rfl⟩:=own_slice (h.2 (t,av) (by simp))
 have hp:(l++[(t,.slice ap am ac)])[m]?=some (t,.slice ap am ac):=by
  rw[List.getElem?_append_right (by omega),hl]
  simp
 have c0:w.cell? ⟨g,m*5,none⟩=some (.int .i64 (t.kind:Int)):=tok_at h m _ hp 0 (by decide)
 have c1:w.cell? ⟨g,m*5+1,none⟩=some (.string ⟨t.name.toArray⟩):=tok_at h m _ hp 1 (by decide)
 have c2:w.cell? ⟨g,m*5+2,none⟩=some (.slice ap am ac):=tok_at h m _ hp 2 (by decide)
 have c3:w.cell? ⟨g,m*5+3,none⟩=some (.bool t.closed):=tok_at h m _ hp 3 (by decide)
 have c4:w.cell? ⟨g,m*5+4,none⟩=some (.string ⟨t.text.toArray⟩):=tok_at h m _ hp 4 (by decide)
 obtain⟨NM,hNM⟩:∃ NM:ByteArray,NM=⟨t.name.toArray⟩:=⟨_,rfl⟩
 obtain⟨TX,hTX⟩:∃ TX:ByteArray,TX=⟨t.text.toArray⟩:=⟨_,rfl⟩
 rw[<-hNM] at c1
 rw[<-hTX] at c4
 have hbn:bl NM=t.name:=by rw[hNM]
 have hNs:NM.size<=4294967280:=by rw[<-bl_len,hbn];exact htn
 have hraw:=fun w=>raw_any NM w
 rw[hbn] at hraw
 have HTK:=hide h
 have HBE:Hid (Below w.heap.size w (w.alloc (.cells #[.int .i64 (t.kind:Int),.string NM,.slice ap am ac,.bool t.closed,.string TX] 45))):=hide ((Below.refl _ _).alloc (Nat.le_refl _) _)
 have HNB:=hide hbn
 clear h hp hNM hTX hbn htn
 by_cases hk:t.kind=2
 case neg =>
  have hkz:((t.kind:Int) != 2)=true:=bne_iff_ne.2 (by omega)
  have e:withRaw t (bl s)=([],bl s):=by
   unfold withRaw
   rw[if_neg hk]
  have HSAME:Hid ([]=(withRaw t (bl s)).1):=hide (by rw[e])
  rw[show (⟨(withRaw t (bl s)).2.toArray⟩:ByteArray)=s by rw[e]]
  generalize (t.kind:Int)=kd at c0 hkz HBE
  clear e hk hg hgm
  go_enter Tryz.func51,Tryz.ntmps51
  go_wp2_with fail
  refine (hraw _).mono ?_
  rintro e w1 ⟨rfl,rfl⟩
  go_wp2_with fail
  go_ret2
  exact⟨_,rfl,[],HSAME.out,by simpa using HTK.out.below (HBE.out),HBE.out.mono hbase⟩
 have hkz:((t.kind:Int) != 2)=false:=by rw[hk];rfl
 have ew:withRaw t (bl s)=match rawOf t.name with
  | none=>([],bl s)
  | some b=>if rawLen t.name (bl s)=0 then ([],bl s) else ([⟨1,[],[],false,if b then res ((bl s).take (rawLen t.name (bl s))) else (bl s).take (rawLen t.name (bl s))⟩],(bl s).drop (rawLen t.name (bl s))):=by
  unfold withRaw
  rw[if_pos hk]
  cases rawOf t.name <;> rfl
 generalize (t.kind:Int)=kd at c0 hkz HBE
 cases hr:rawOf t.name with
 | none =>
  rw[hr] at ew hraw
  have HSAME:Hid ([]=(withRaw t (bl s)).1):=hide (by rw[ew])
  rw[show (⟨(withRaw t (bl s)).2.toArray⟩:ByteArray)=s by rw[ew]]
  clear ew hk hg hgm hr
  go_enter Tryz.func51,Tryz.ntmps51
  go_wp2_with fail
  refine (hraw _).mono ?_
  rintro e w1 ⟨rfl,rfl⟩
  go_wp2_with fail
  go_ret2
  exact⟨_,rfl,[],HSAME.out,by simpa using HTK.out.below (HBE.out),HBE.out.mono hbase⟩
 | some b =>
  rw[hr] at ew hraw
  have hrl:=fun w hgm=>rawLen_any s NM w hs hNs hgm
  rw[HNB.out] at hrl
  have HGM:=hide (hgm.below HBE.out)
  have hle:=rawLen_le t.name (bl s)
  rw[bl_len] at hle
  obtain⟨n,hn⟩:∃ n,n=rawLen t.name (bl s):=⟨_,rfl⟩
  rw[<-hn] at hrl ew hle
  clear hn hk hr
  simp only at ew
  by_cases hn0:n=0
  ·rw[if_pos hn0] at ew
   have HSAME:Hid ([]=(withRaw t (bl s)).1):=hide (by rw[ew])
   rw[show (⟨(withRaw t (bl s)).2.toArray⟩:ByteArray)=s by rw[ew]]
   subst hn0
   clear ew hg hgm
   go_enter Tryz.func51,Tryz.ntmps51
   go_wp2_with fail
   refine (hraw _).mono ?_
   rintro e w1 ⟨rfl,rfl⟩
   go_wp2_with fail
   refine (hrl _ HGM.out).mono ?_
   rintro e w2 ⟨rfl,hb2⟩
   have HB2:=hide (bel2 HBE.out hb2)
   clear hb2 HBE
   go_wp2_with fail
   go_ret2
   exact⟨_,rfl,[],HSAME.out,by simpa using HTK.out.below HB2.out,HB2.out.mono hbase⟩
  rw[if_neg hn0] at ew
  have hnz:((n:Int)==0)=false:=beq_eq_false_iff_ne.2 (by omega)
  have HEX:Hid ((⟨(withRaw t (bl s)).2.toArray⟩:ByteArray)=s.extract n s.size):=hide (by rw[ew,ext_drop])
  have hclo:=fun w=>clone_any (s.extract 0 n) w (by simp;omega)
  have hbx:bl (s.extract 0 n)=(bl s).take n:=by rw[extract_take]
  have HGB:Hid (base<=g):=hide (by
   obtain⟨g',cap',e,hb⟩:=toks_slice HTK.out (by simp)
   injection e with e1 e2 e3
   cases e1
   exact hb)
  obtain⟨i0,hi,hz0,hz1,hz2⟩:=info_parts infoTok
  have hxs:(s.extract 0 n).size<=4294967280:=by simp;omega
  have HG:=hide hg
  clear hg hgm hn0
  cases b
  ·have HT1:Hid ([(⟨1,[],[],false,bl (s.extract 0 n)⟩:Tk)]=(withRaw t (bl s)).1):=hide (by rw[ew,hbx];rfl)
   clear ew hbx
   generalize hX:s.extract 0 n=X at hclo hxs HT1
   go_enter Tryz.func51,Tryz.ntmps51
   go_wp2_with fail
   refine (hraw _).mono ?_
   rintro e w1 ⟨rfl,rfl⟩
   go_wp2_with fail
   refine (hrl _ HGM.out).mono ?_
   rintro e w2 ⟨rfl,hb2⟩
   have HB2:=hide (bel2 HBE.out hb2)
   clear hb2 HBE
   go_wp2_with fail
   refine (hclo _).mono ?_
   rintro e w3 ⟨rfl,hb3⟩
   have HB3:=hide (bel2 HB2.out hb3)
   clear hb3 HB2
   go_wp2_with fail
   refine wp_region_any (by kernel_rfl) ?_
   try (change wpAny _ _ _ _ _ _ _ (World.drew _))
   refine wpT 0 (.slice (some ⟨g,0,none⟩) (m+1) cap) rfl ?_
   refine wpT 1 (.string X) rfl ?_
   refine wpT 2 (.agg #[.int .i64 1,.string ⟨#[]⟩,.slice none 0 0,.bool false,.string X]) rfl ?_
   refine wpT 5 (.string s) rfl ?_
   refine wpT 6 (.int .i64 (n:Int)) rfl ?_
   refine wpT 7 (.string (s.extract n s.size)) rfl ?_
   refine wpAny_ready (rs:=[3]) (by kernel_rfl) (by simp) ?_
   refine AllReady.cons rfl (fun K hK=>?_) AllReady.nil
   go_simp
   go_wp2_with fail
   refine wpAny_ready (rs:=[4]) (by kernel_rfl) (by simp) ?_
   refine AllReady.cons rfl (fun K hK=>?_) AllReady.nil
   rw[if_pos (by rfl)]
   refine wp_append_own _ (.tmp 47) (.tmp 50) 35 rfl base 45 i0 _ 5 72 Tryz.underlying35 hi hz0 hz1 hz2 rfl (by decide) (.slice (some ⟨g,0,none⟩) (m+1) cap) (l++[(t,Value.slice ap am ac)]).length (toksCells (l++[(t,Value.slice ap am ac)])) rfl ((HTK.out.below (HB3.out)).1.alloc _).drew ⟨w3.heap.size,0,none⟩ 1 1 [.int .i64 1,.string ⟨#[]⟩,.slice none 0 0,.bool false,.string X] rfl rfl (five_newd w3 _ _ _ _ _ _) (five_one _ _ _ _ _ _ _) (by unfold maxLen;rw[List.length_append];simp;omega) (by rw[List.length_append];simp;omega) (by have:=(HB3.out).size;simp;omega) ?_
   intro v' w5 hown5 hgr5 _
   obtain⟨bp,bm,bc,rfl⟩:=own_slice hown5
   have hgr5:=grown_drew hgr5
   have HTM:=hide (ToksAt.more (t:=⟨1,[],[],false,bl X⟩) (av:=.slice none 0 0) (HTK.out.below (HB3.out)) (World.ownsRow_nil _ _ _ _) (by rw[show tokCells ⟨1,[],[],false,bl X⟩ (.slice none 0 0)=[.int .i64 1,.string ⟨#[]⟩,.slice none 0 0,.bool false,.string X] by unfold tokCells;rw[bl_eta];rfl];exact hown5) hgr5)
   have HBL:Hid (Below base w w5):=hide ((((HB3.out).alloc (HB3.out).size _).mono hbase).grown hgr5 (by have:=(HB3.out).size;simp;omega) (fun j hj=>by simp[Value.ownBlock] at hj;have:=HGB.out;omega))
   clear hown5 hgr5
   refine hK _ _ ?_
   clear hK K
   refine wpT 8 (.slice bp bm bc) rfl ?_
   refine wpT 9 (.string (s.extract n s.size)) rfl ?_
   refine wpAny_done (by kernel_rfl) ?_ _
   go_wp2_with fail
   go_ret2
   rw[HEX.out]
   exact⟨_,rfl,[(_,_)],HT1.out,HTM.out,HBL.out⟩
  ·have hrv:=fun w hg=>resolve_any (s.extract 0 n) (by omega) w hg
   have hRb:bl ⟨(res (bl (s.extract 0 n))).toArray⟩=res (bl (s.extract 0 n)):=rfl
   generalize (⟨(res (bl (s.extract 0 n))).toArray⟩:ByteArray)=RV at hrv hRb
   have HT1:Hid ([(⟨1,[],[],false,bl RV⟩:Tk)]=(withRaw t (bl s)).1):=hide (by rw[ew,hRb,hbx];rfl)
   clear ew hbx hRb
   generalize hX:s.extract 0 n=X at hclo hxs hrv
   go_enter Tryz.func51,Tryz.ntmps51
   go_wp2_with fail
   refine (hraw _).mono ?_
   rintro e w1 ⟨rfl,rfl⟩
   go_wp2_with fail
   refine (hrl _ HGM.out).mono ?_
   rintro e w2 ⟨rfl,hb2⟩
   have HB2:=hide (bel2 HBE.out hb2)
   clear hb2 HBE
   go_wp2_with fail
   refine (hclo _).mono ?_
   rintro e w3 ⟨rfl,hb3⟩
   have HB3:=hide (bel2 HB2.out hb3)
   clear hb3 HB2
   go_wp2_with fail
   refine (hrv _ (HG.out.below HB3.out)).mono ?_
   rintro e w4 ⟨rfl,hb4⟩
   have HB4:=hide (bel2 HB3.out hb4)
   clear hb4 HB3
   go_wp2_with fail
   refine wp_region_any (by kernel_rfl) ?_
   try (change wpAny _ _ _ _ _ _ _ (World.drew _))
   refine wpT 0 (.slice (some ⟨g,0,none⟩) (m+1) cap) rfl ?_
   refine wpT 1 (.string RV) rfl ?_
   refine wpT 2 (.agg #[.int .i64 1,.string ⟨#[]⟩,.slice none 0 0,.bool false,.string RV]) rfl ?_
   refine wpT 5 (.string s) rfl ?_
   refine wpT 6 (.int .i64 (n:Int)) rfl ?_
   refine wpT 7 (.string (s.extract n s.size)) rfl ?_
   refine wpAny_ready (rs:=[3]) (by kernel_rfl) (by simp) ?_
   refine AllReady.cons rfl (fun K hK=>?_) AllReady.nil
   go_simp
   go_wp2_with fail
   refine wpAny_ready (rs:=[4]) (by kernel_rfl) (by simp) ?_
   refine AllReady.cons rfl (fun K hK=>?_) AllReady.nil
   rw[if_pos (by rfl)]
   refine wp_append_own _ (.tmp 47) (.tmp 50) 35 rfl base 45 i0 _ 5 72 Tryz.underlying35 hi hz0 hz1 hz2 rfl (by decide) (.slice (some ⟨g,0,none⟩) (m+1) cap) (l++[(t,Value.slice ap am ac)]).length (toksCells (l++[(t,Value.slice ap am ac)])) rfl ((HTK.out.below (HB4.out)).1.alloc _).drew ⟨w4.heap.size,0,none⟩ 1 1 [.int .i64 1,.string ⟨#[]⟩,.slice none 0 0,.bool false,.string RV] rfl rfl (five_newd w4 _ _ _ _ _ _) (five_one _ _ _ _ _ _ _) (by unfold maxLen;rw[List.length_append];simp;omega) (by rw[List.length_append];simp;omega) (by have:=(HB4.out).size;simp;omega) ?_
   intro v' w5 hown5 hgr5 _
   obtain⟨bp,bm,bc,rfl⟩:=own_slice hown5
   have hgr5:=grown_drew hgr5
   have HTM:=hide (ToksAt.more (t:=⟨1,[],[],false,bl RV⟩) (av:=.slice none 0 0) (HTK.out.below (HB4.out)) (World.ownsRow_nil _ _ _ _) (by rw[show tokCells ⟨1,[],[],false,bl RV⟩ (.slice none 0 0)=[.int .i64 1,.string ⟨#[]⟩,.slice none 0 0,.bool false,.string RV] by unfold tokCells;rw[bl_eta];rfl];exact hown5) hgr5)
   have HBL:Hid (Below base w w5):=hide ((((HB4.out).alloc (HB4.out).size _).mono hbase).grown hgr5 (by have:=(HB4.out).size;simp;omega) (fun j hj=>by simp[Value.ownBlock] at hj;have:=HGB.out;omega))
   clear hown5 hgr5
   refine hK _ _ ?_
   clear hK K
   refine wpT 8 (.slice bp bm bc) rfl ?_
   refine wpT 9 (.string (s.extract n s.size)) rfl ?_
   refine wpAny_done (by kernel_rfl) ?_ _
   go_wp2_with fail
   go_ret2
   rw[HEX.out]
   exact⟨_,rfl,[(_,_)],HT1.out,HTM.out,HBL.out⟩
end Go.Proofs.YtkiofbikkhhdfabGreatDoor.To
namespace Go.Proofs.YtkiofbikkhhdfabGreatDoor.To
open Go.RowKit
open Utf1
theorem withRaw_many (t:Tk) (r:List UInt8):(withRaw t r).1.length+(withRaw t r).2.length<=r.length:=by
 unfold withRaw
 split
 ·split
  ·simp
  ·split
   ·simp
   ·rename_i h
    have:=rawLen_le t.name r
    simp
    omega
 ·simp
theorem cutE (s:ByteArray) (sep:ByteArray)(hs:s.size<=4294967280):∃ A C:ByteArray,Hid (bl A=(Lib.cut (bl s) (bl sep)).1)/\Hid (bl C=(Lib.cut (bl s) (bl sep)).2.1)/\∃ b:Bool,Hid (∀ w,GlobM w->Calls Tryz.prog 28 #[.string s,.string sep] w fun e w'=>e=.returned (.tuple #[.string A,.string C,.bool b])/\Below w.heap.size w w'):=by
 refine⟨⟨(Lib.cut (bl s) (bl sep)).1.toArray⟩,⟨(Lib.cut (bl s) (bl sep)).2.1.toArray⟩,hide rfl,hide rfl,(Lib.cut (bl s) (bl sep)).2.2,hide ?_⟩
 rintro w ⟨m,hm⟩
 refine (Tryz.strings_Cut s sep m w (by omega) hm).mono ?_
 rintro e w' ⟨rfl,n,rfl⟩
 exact⟨rfl,bel_drewN w n⟩
theorem ext_four (s:ByteArray) (k:Nat):bl (s.extract k s.size)=(bl s).drop k:=by rw[ext_drop]
theorem ToksAt.plain {w w1:World}{base:Nat}{v v':Value}{l:List (Tk × Value)}{o:Obj}(k:Nat) (X:ByteArray)(h:ToksAt w base v l)
  (hown:w1.ownsRow base 45 5 v' (l.length+1) (toksCells l++[.int .i64 (k:Int),.string ⟨#[]⟩,.slice none 0 0,.bool false,.string X]))(hgr:(w.alloc o).grownBy w1 v.ownBlock):ToksAt w1 base v' (l++[(⟨k,[],[],false,bl X⟩,.slice none 0 0)]):=by
 refine ToksAt.more h (World.ownsRow_nil _ _ _ _) ?_ hgr
 rw[show tokCells ⟨k,[],[],false,bl X⟩ (.slice none 0 0)=[.int .i64 (k:Int),.string ⟨#[]⟩,.slice none 0 0,.bool false,.string X] by unfold tokCells;rw[bl_eta]]
 exact hown
theorem bel_more {w0 w w1:World}{base:Nat}{v:Value}{l:List (Tk × Value)}{o:Obj}(h:ToksAt w base v l)(hb:Below base w0 w)(hs:base<=w.heap.size)(hgr:(w.alloc o).grownBy w1 v.ownBlock):Below base w0 w1 :=
 (hb.alloc hs o).grown hgr (by simp;omega) (fun j hj=>(h.1.lt j hj).1)
theorem five_new2 (w:World) (o:Obj) (a b c d e:Value) (t:TypeId):∀ (j:Nat) (u:Value),[a,b,c,d,e][j]?=some u->((w.alloc o).alloc (.cells #[a,b,c,d,e] t)).cell? ((⟨w.heap.size+1,0,none⟩:Addr).add j)=some u:=by
 intro j u h
 have:=five_new (w.alloc o) a b c d e t j u h
 rw[show (w.alloc o).heap.size=w.heap.size+1 by simp] at this
 exact this
theorem beg_four {l:List UInt8}(h:beg l=1):4<=l.length:=by
 cases l with
 | nil=>cases h
 | cons c t =>
  by_cases hc:c=60
  ·subst hc
   rw[beg_lt] at h
   cases t with
   | nil=>cases h
   | cons d u =>
    by_cases hp:[33,45,45].isPrefixOf (d :: u)=true
    ·have:=(List.isPrefixOf_iff_prefix.1 hp).length_le
     simp at this ⊢
     omega
    ·exfalso
     unfold beg1 at h
     simp only at h
     rw[if_neg hp] at h
     split at h
     ·omega
     ·split at h
      ·omega
      ·split at h
       ·omega
       ·unfold beg2 at h
        split at h
        ·omega
        ·split at h <;> omega
  ·rw[beg_ne t hc] at h
   cases h
theorem tag_name_len {l r:List UInt8}{t:Tk}(h:tagOf l=some (t,r)):t.name.length<=l.length:=by
 have h3:(tagBody l).length<=l.length:=by
  unfold tagBody
  split <;> (rw[List.length_drop];omega)
 have h4:((tagBody l).takeWhile (fun x=>!isNm x)).length<=(tagBody l).length:=by
  have:=congrArg List.length (List.takeWhile_append_dropWhile (p:=fun x=>!isNm x) (l:=tagBody l))
  rw[List.length_append] at this
  omega
 have e:t.name=lower ((tagBody l).takeWhile (fun x=>!isNm x)):=by
  unfold tagOf at h
  split at h
  ·cases h
  ·injection h with h
   injection h with h1 h2
   rw[<-h1]
   split <;> rfl
 rw[e]
 unfold lower
 rw[List.length_map]
 omega
theorem tokens_any (s:ByteArray) (w:World)(hs:s.size<=4294967280)(hg:Glob w)(hgm:GlobM w) :
  Calls Tryz.prog 15 #[.string s] w fun e w'=>∃ v l,e=.returned v/\l.map Prod.fst=toks (bl s)/\ToksAt w' w.heap.size v l/\Below w.heap.size w w':=by
 obtain⟨i0,hi,hz0,hz1,hz2⟩:=info_parts infoTok
 have HG:=hide (And.intro hg hgm)
 clear hg hgm
 go_enter Tryz.func15,Tryz.ntmps15
 go_wp2
 go_loopg [0,3] s.size (fun q v0 v3 wr=>∃ (r:ByteArray) (l:List (Tk × Value)),v0=.string r/\r.size=q/\l.length+r.size<=s.size/\ToksAt wr w.heap.size v3 l/\Below w.heap.size w wr/\Hid (l.map Prod.fst++toks (bl r)=toks (bl s)))
 case atStart=>exact⟨s,[],rfl,rfl,by simp,ToksAt.nil _ _,Below.refl _ _,hide rfl⟩
 case round =>
  obtain⟨r,l,rfl,rfl,hlr,htk,hbw,HA⟩:=hrel
  have hsl:=own_slice htk.1
  obtain⟨ap,am,ac,rfl⟩:=hsl
  have HTK:=hide htk
  have HBW:=hide hbw
  have hsz:w.heap.size<=wr.heap.size:=hbw.size
  have HG1:Hid (Glob wr/\GlobM wr):=hide ⟨HG.out.1.below hbw,HG.out.2.below hbw⟩
  clear htk hbw
  rcases hb:bl r with _ | ⟨c,t⟩
  ·have hE:=empty_of hb
   have HF:Hid (l.map Prod.fst=toks (bl s)):=hide (by rw[<-HA.out,hb,toks_nil,List.append_nil])
   clear HA hb
   go_wp2_with fail
   go_ret
   exact⟨_,l,rfl,HF.out,HTK.out,HBW.out⟩
  have hE:=nonempty_of hb
  have hr1:1<=r.size:=by rw[<-bl_len,hb];simp
  have hbg:=fun w=>begins_any r w hr1
  have h3:=beg_le (bl r)
  obtain⟨b,hbb⟩:∃ b,b=beg (bl r):=⟨_,rfl⟩
  rw[<-hbb] at hbg h3
  rcases (show b=1\/b=2\/b=3\/b=0 by omega) with rfl | rfl | rfl | rfl
  ·-- a note
   have hr4:4<=r.size:=by
    rw[<-bl_len]
    exact beg_four hbb.symm
   have h4s:(r.extract 4 r.size).size=r.size - 4:=by simp
   obtain⟨A,C,HA1,HC1,bo,HCUT⟩:=cutE (r.extract 4 r.size) ⟨#[45,45,62]⟩ (by omega)
   rw[ext_four] at HA1 HC1
   have hcl:=cut_len1 ((bl r).drop 4) [45,45,62]
   have hc2:=cut_len ((bl r).drop 4) [45,45,62] (by decide)
   rw[List.length_drop,bl_len] at hcl hc2
   have hAs:A.size<=4294967280:=by
    rw[<-bl_len,HA1.out]
    exact Nat.le_trans hcl (by omega)
   have hCs:C.size<=r.size - 4 - 1:=by
    rw[<-bl_len,HC1.out]
    exact hc2
   have HN:Hid ((l.map Prod.fst++[⟨4,[],[],false,bl A⟩])++toks (bl C)=toks (bl s)):=hide (by
    rw[<-HA.out,toks_note (bl r) hbb.symm,HA1.out,HC1.out,List.append_assoc]
    simp only[List.cons_append,List.nil_append])
   have hclo:=fun w=>clone_any A w (by omega)
   clear HA hb hbb h3 hcl hc2 HA1 HC1
   go_wp2_with fail
   refine (hbg _).mono ?_
   rintro e w1 ⟨rfl,rfl⟩
   go_wp2_with fail
   refine (HCUT.out _ HG1.out.2).mono ?_
   rintro e w2 ⟨rfl,hb2⟩
   go_wp2_with fail
   refine (hclo _).mono ?_
   rintro e w3 ⟨rfl,hb3⟩
   have hb13:=bel2 hb2 hb3
   have HT3:=hide (HTK.out.below hb13)
   have HB3:=hide (HBW.out.trans (hb13.mono hsz))
   have hs3:w.heap.size<=w3.heap.size:=Nat.le_trans hsz hb13.size
   clear hb2 hb3 hb13
   go_wp2_with (at_builtin;refine wpList_append_own _ rfl _ _ 35 rfl w.heap.size 45 i0 _ 5 72 Tryz.underlying35 hi hz0 hz1 hz2 rfl (by decide) (.slice ap am ac) l.length (toksCells l) rfl (HT3.out.1.alloc _) ⟨w3.heap.size,0,none⟩ 1 1 [.int .i64 4,.string ⟨#[]⟩,.slice none 0 0,.bool false,.string A] rfl rfl (five_new w3 _ _ _ _ _ _) (five_one _ _ _ _ _ _ _) (by unfold maxLen;omega) (by omega) (by simp;omega) ?_)
   intro v' w5 hown5 hgr5 _
   obtain⟨bp,bm,bc,rfl⟩:=own_slice hown5
   have HT5:=hide (ToksAt.plain 4 A HT3.out hown5 hgr5)
   have HB5:=hide (bel_more HT3.out HB3.out hs3 hgr5)
   clear hown5 hgr5
   go_wp2_with fail
   go_roundg C.size
   case measure=>omega
   case rel=>exact⟨C,_,rfl,rfl,by rw[List.length_append];simp;omega,HT5.out,HB5.out,by rw[List.map_append];exact HN⟩
  ·obtain⟨A,C,HA1,HC1,bo,HCUT⟩:=cutE r ⟨#[62]⟩ (by omega)
   have hc2:=cut_len (bl r) [62] (by decide)
   rw[bl_len] at hc2
   have hCs:C.size<=r.size - 1:=by
    rw[<-bl_len,HC1.out]
    exact hc2
   have HN:Hid (l.map Prod.fst++toks (bl C)=toks (bl s)):=hide (by
    rw[<-HA.out,toks_none (bl r) hbb.symm,HC1.out])
   clear HA hb hbb h3 hc2 HA1 HC1
   go_wp2_with fail
   refine (hbg _).mono ?_
   rintro e w1 ⟨rfl,rfl⟩
   go_wp2_with fail
   refine (HCUT.out _ HG1.out.2).mono ?_
   rintro e w2 ⟨rfl,hb2⟩
   have HT3:=hide (HTK.out.below hb2)
   have HB3:=hide (HBW.out.trans (hb2.mono hsz))
   clear hb2
   go_wp2_with fail
   go_roundg C.size
   case measure=>omega
   case rel=>exact⟨C,l,rfl,rfl,by omega,HT3.out,HB3.out,HN⟩
  ·have hrt:=readTag_any r wr HG1.out.1 (by omega) hbb.symm
   cases htg:tagOf (bl r) with
   | none =>
    rw[htg] at hrt
    have HF:Hid (l.map Prod.fst=toks (bl s)):=hide (by rw[<-HA.out,toks_cutoff _ hbb.symm htg,List.append_nil])
    clear HA hb hbb h3 htg
    go_wp2_with fail
    refine (hbg _).mono ?_
    rintro e w1 ⟨rfl,rfl⟩
    go_wp2_with fail
    refine hrt.mono ?_
    rintro e w2 ⟨rfl,hb2⟩
    have HT3:=hide (HTK.out.below hb2)
    have HB3:=hide (HBW.out.trans (hb2.mono hsz))
    have hs3:w.heap.size<=w2.heap.size:=Nat.le_trans hsz hb2.size
    clear hb2 hrt
    go_wp2_with fail
    go_ret
    exact⟨_,l,rfl,HF.out,HT3.out.below ((Below.refl _ _).alloc (Nat.le_refl _) _),HB3.out.alloc hs3 _⟩
   | some pr =>
    obtain⟨tk,r2⟩:=pr
    rw[htg] at hrt
    have hr2:=tagOf_len htg
    rw[bl_len] at hr2
    have hnm:=tag_name_len htg
    rw[bl_len] at hnm
    have hmany:=withRaw_many tk r2
    have HN:Hid (∀ (l':List (Tk × Value)) (av:Value),l'.map Prod.fst=(withRaw tk r2).1->(l++[(tk,av)]++l').map Prod.fst++toks (withRaw tk r2).2=toks (bl s)):=hide (by
     intro l' av h
     rw[<-HA.out,toks_tag _ r2 tk hbb.symm htg,List.map_append,List.map_append,h,List.append_assoc,List.append_assoc]
     simp only[List.map_cons,List.map_nil,List.cons_append,List.nil_append])
    clear HA hb hbb h3 htg
    go_wp2_with fail
    refine (hbg _).mono ?_
    rintro e w1 ⟨rfl,rfl⟩
    go_wp2_with fail
    refine hrt.mono ?_
    rintro e w2 ⟨av,rfl,hav0,hb2⟩
    have hav:=own_base hav0 hsz
    obtain⟨vp,vm,vc,rfl⟩:=own_slice hav
    have HAV:=hide hav
    have HT3:=hide (HTK.out.below hb2)
    have HB3:=hide (HBW.out.trans (hb2.mono hsz))
    have hs3:w.heap.size<=w2.heap.size:=Nat.le_trans hsz hb2.size
    have HTC:Hid (tokCells tk (.slice vp vm vc)=[.int .i64 (tk.kind:Int),.string ⟨tk.name.toArray⟩,.slice vp vm vc,.bool tk.closed,.string ⟨tk.text.toArray⟩]):=hide rfl
    clear hb2 hrt hav hav0
    generalize (⟨tk.name.toArray⟩:ByteArray)=NM at HTC ⊢
    generalize (⟨tk.text.toArray⟩:ByteArray)=TX at HTC ⊢
    generalize (tk.kind:Int)=kd at HTC ⊢
    generalize hR2:(⟨r2.toArray⟩:ByteArray)=R2
    have HR2:Hid (bl R2=r2):=hide (by rw[<-hR2])
    clear hR2
    go_wp2_with (at_builtin;refine wpList_append_own _ rfl _ _ 35 rfl w.heap.size 45 i0 _ 5 72 Tryz.underlying35 hi hz0 hz1 hz2 rfl (by decide) (.slice ap am ac) l.length (toksCells l) rfl ((HT3.out.1.alloc _).alloc _) ⟨w2.heap.size+1,0,none⟩ 1 1 [.int .i64 kd,.string NM,.slice vp vm vc,.bool tk.closed,.string TX] rfl rfl (five_new2 w2 _ _ _ _ _ _ _) (five_one _ _ _ _ _ _ _) (by unfold maxLen;omega) (by omega) (by simp;omega) ?_)
    intro v' w5 hown5 hgr5 _
    have HT4:=HT3.out.below ((Below.refl _ _).alloc (Nat.le_refl _) (.cells #[.int .i64 kd,.string NM,.slice vp vm vc,.bool tk.closed,.string TX] 45))
    have HT5:=ToksAt.more HT4 (HAV.out.alloc _) (by rw[HTC.out];exact hown5) hgr5
    have HB5:=bel_more HT4 (HB3.out.alloc hs3 _) (by simp;omega) hgr5
    obtain⟨g,cap,hv,hgb⟩:=toks_slice HT5 (by simp)
    rw[List.length_append,List.length_cons,List.length_nil] at hv
    subst hv
    have hwr:=withRaw_any R2 w5 w.heap.size l.length cap g l tk (.slice vp vm vc) (by omega) (by rw[<-bl_len,HR2.out];omega) (by omega) (HG.out.1.below HB5) (HG.out.2.below HB5) HB5.size rfl HT5
    rw[HR2.out] at hwr
    have hWs:(⟨(withRaw tk r2).2.toArray⟩:ByteArray).size=(withRaw tk r2).2.length:=size_mk _
    have HWb:Hid (bl ⟨(withRaw tk r2).2.toArray⟩=(withRaw tk r2).2):=hide rfl
    generalize (⟨(withRaw tk r2).2.toArray⟩:ByteArray)=WR at hwr hWs HWb
    have HB5:=hide HB5
    clear hown5 hgr5 HT4 HT5
    go_wp2_with fail
    refine hwr.mono ?_
    rintro e w6 ⟨v6,rfl,l',hl',HT6,hb6⟩
    obtain⟨qp,qm,qc,rfl⟩:=own_slice HT6.1
    have hll:=congrArg List.length hl'
    rw[List.length_map] at hll
    have HN2:=hide (HN.out l' (.slice vp vm vc) hl')
    have HT6:=hide HT6
    have HB6:=hide (HB5.out.trans hb6)
    clear hwr hl' hb6 HN
    go_wp2_with fail
    go_roundg WR.size
    case measure=>omega
    case rel =>
     refine⟨WR,_,rfl,rfl,?_,HT6.out,HB6.out,hide ?_⟩
     ·rw[List.length_append,List.length_append]
      simp
      omega
     ·rw[HWb.out]
      exact HN2.out
  ·have htl:=textLen_any r wr hr1 (by omega) hbb.symm
   have hsp:1<=stop (bl r):=by
    rw[hb]
    exact stop_pos c t (by rw[<-hb,<-hbb])
   have hsl2:=stop_le (bl r)
   rw[bl_len] at hsl2
   have htx:=toks_text (bl r) (by rw[hb];simp) hbb.symm
   obtain⟨n,hn⟩:∃ n,n=stop (bl r):=⟨_,rfl⟩
   rw[<-hn] at htl hsp hsl2 htx
   have hrv:=fun w hg=>resolve_any (r.extract 0 n) (by simp;omega) w hg
   have hbx:bl (r.extract 0 n)=(bl r).take n:=by rw[extract_take]
   have hRb:bl ⟨(res (bl (r.extract 0 n))).toArray⟩=res (bl (r.extract 0 n)):=rfl
   generalize (⟨(res (bl (r.extract 0 n))).toArray⟩:ByteArray)=RV at hrv hRb
   have hCs:(r.extract n r.size).size=r.size - n:=by simp
   have HN:Hid ((l.map Prod.fst++[⟨1,[],[],false,bl RV⟩])++toks (bl (r.extract n r.size))=toks (bl s)):=hide (by
    rw[<-HA.out,htx,hRb,hbx,ext_four,List.append_assoc]
    simp only[List.cons_append,List.nil_append])
   clear HA hb hbb h3 hn htx hbx hRb
   go_wp2_with fail
   refine (hbg _).mono ?_
   rintro e w1 ⟨rfl,rfl⟩
   go_wp2_with fail
   refine htl.mono ?_
   rintro e w2 ⟨rfl,hb2⟩
   go_wp2_with fail
   refine (hrv _ (HG1.out.1.below hb2)).mono ?_
   rintro e w3 ⟨rfl,hb3⟩
   have hb13:=bel2 hb2 hb3
   have HT3:=hide (HTK.out.below hb13)
   have HB3:=hide (HBW.out.trans (hb13.mono hsz))
   have hs3:w.heap.size<=w3.heap.size:=Nat.le_trans hsz hb13.size
   clear hb2 hb3 hb13 htl
   go_wp2_with (at_builtin;refine wpList_append_own _ rfl _ _ 35 rfl w.heap.size 45 i0 _ 5 72 Tryz.underlying35 hi hz0 hz1 hz2 rfl (by decide) (.slice ap am ac) l.length (toksCells l) rfl (HT3.out.1.alloc _) ⟨w3.heap.size,0,none⟩ 1 1 [.int .i64 1,.string ⟨#[]⟩,.slice none 0 0,.bool false,.string RV] rfl rfl (five_new w3 _ _ _ _ _ _) (five_one _ _ _ _ _ _ _) (by unfold maxLen;omega) (by omega) (by simp;omega) ?_)
   intro v' w5 hown5 hgr5 _
   obtain⟨bp,bm,bc,rfl⟩:=own_slice hown5
   have HT5:=hide (ToksAt.plain 1 RV HT3.out hown5 hgr5)
   have HB5:=hide (bel_more HT3.out HB3.out hs3 hgr5)
   clear hown5 hgr5
   go_wp2_with fail
   go_roundg (r.extract n r.size).size
   case measure=>omega
   case rel=>exact⟨r.extract n r.size,_,rfl,rfl,by rw[List.length_append];simp;omega,HT5.out,HB5.out,by rw[List.map_append];exact HN⟩
end Go.Proofs.YtkiofbikkhhdfabGreatDoor.To

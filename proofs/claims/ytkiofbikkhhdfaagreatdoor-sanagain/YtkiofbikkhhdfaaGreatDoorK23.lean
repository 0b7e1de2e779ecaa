import Derived.Test.YtkiofbikkhhdfaaGreatDoorK11
import Derived.Test.YtkiofbikkhhdfaaGreatDoorU4
import Derived.Test.YtkiofbikkhhdfaaGreatDoorK22
import Derived.Test.YtkiofbikkhhdfaaGreatDoorK21
import Derived.Test.YtkiofbikkhhdfaaGreatDoorN10
import Derived.Test.YtkiofbikkhhdfaaGreatDoorK15
import Derived.Test.YtkiofbikkhhdfaaGreatDoorK02
import Derived.Test.YtkiofbikkhhdfaaGreatDoorRaw
namespace Go.Proofs.YtkiofbikkhhdfaaGreatDoor.To
open Go.RowKit
open Utf1
theorem beg3 {l:List UInt8}(h:beg l=3):∃ d r,l=60 :: d :: r:=by
 cases l with
 | nil=>cases h
 | cons c t =>
  by_cases hc:c=60
  ·subst hc
   rw[beg_lt] at h
   cases t with
   | nil=>cases h
   | cons d r=>exact⟨d,r,rfl⟩
  ·rw[beg_ne t hc] at h
   cases h
theorem tag_pass (w0:World) (start:Bool) (nm:ByteArray) (tg:Option (Tk × List UInt8)) (N:Nat)(hN:N<=4294967280)(hg:Glob w0) (n l:Nat) (a:Act) (w:World)(hJ:tagJ w0 start nm tg N n l a w) :
  ∃ rest,findLabel tagCode l=some rest/\rest.wp Tryz.prog (jumps (fun l' a' w'=>∃ n',n' < n/\tagJ w0 start nm tg N n' l' a' w') (bodyPost Tryz.prog Tryz.f62 (TagPost tg w0))) a w :=
 match l,hJ with
 | 0,hJ=>of_label (tag_between w0 start nm tg N n a w hN hJ)
 | 1,hJ=>tag_none w0 start nm tg N n a w hJ
 | 2,hJ=>tag_end w0 start nm tg N n a w hN hJ
 | 3,hJ=>of_label (tag_keep w0 start nm tg N n a w hN hg hJ)
 | 4,hJ=>tag_quoted w0 start nm tg N n a w hN hJ (fun n a w h=>tag_keep w0 start nm tg N n a w hN hg h)
 | _+5,hJ=>hJ.elim
theorem to_between {w0:World}{start:Bool}{nm:ByteArray}{tg:Option (Tk × List UInt8)}{N:Nat}{c:Code}{a:Act}{w:World}(hN:N<=4294967280)(hf:findLabel tagCode 0=some (.seq .skip c)) (n:Nat)(hJ:JBet w0 start nm tg N n a w) :
  c.wp Tryz.prog (jumps (fun l' a' w'=>∃ n',tagJ w0 start nm tg N n' l' a' w') (bodyPost Tryz.prog Tryz.f62 (TagPost tg w0))) a w:=by
 obtain⟨rest,h1,h2⟩:=tag_between w0 start nm tg N n a w hN hJ
 rw[hf] at h1
 cases h1
 exact Code.wp_mono (jumps_mono (fun l a w ⟨n',_,h2⟩=>⟨n',h2⟩)) h2
theorem three_a (w:World) (a b c:Obj):(((w.alloc a).alloc b).alloc c).heap[w.heap.size]?=some a:=by
 show (((w.heap.push a).push b).push c)[w.heap.size]?=_
 rw[Array.getElem?_push,if_neg (by simp;omega),Array.getElem?_push,if_neg (by simp),Array.getElem?_push,if_pos rfl]
theorem three_b (w:World) (a b c:Obj):(((w.alloc a).alloc b).alloc c).heap[w.heap.size+1]?=some b:=by
 show (((w.heap.push a).push b).push c)[w.heap.size+1]?=_
 rw[Array.getElem?_push,if_neg (by simp),Array.getElem?_push,if_pos (by simp)]
theorem three_c (w:World) (a b c:Obj):(((w.alloc a).alloc b).alloc c).heap[w.heap.size+2]?=some c:=by
 show (((w.heap.push a).push b).push c)[w.heap.size+2]?=_
 rw[Array.getElem?_push,if_pos (by simp)]
theorem three_w (w:World) (a b c:Obj):Below w.heap.size w (((w.alloc a).alloc b).alloc c):=(((Below.refl _ _).alloc (Nat.le_refl _) _).alloc (by simp) _).alloc (by simp;omega) _
theorem tag_math {l b:List UInt8}{NA S3 L:ByteArray}(start:Bool)(hs:(l.getD 1 0=47) ↔ start=false)(hb:tagBody l=b) (HNA:bl NA=b.takeWhile (fun x=>!isNm x)) (H3:bl S3=b.dropWhile (fun x=>!isNm x))(hL:bl L=lower (bl NA)):tagOf l=(attrsOf [] (bl S3)).map (mkTk start L):=by
 unfold tagOf
 rw[hb,<-H3,<-HNA,<-hL]
 cases attrsOf [] (bl S3) with
 | none=>rfl
 | some p =>
  obtain⟨a,cl,r⟩:=p
  simp only
  cases start
  ·rw[if_pos (hs.2 rfl)]
   rfl
  ·rw[if_neg (by intro h;cases hs.1 h)]
   rfl
theorem calls_world {P:Program}{f:FuncId}{args:Array Value}{w:World}{R:Ending->World->Prop}(h:∀ wA,wA=w->Calls P f args wA R):Calls P f args w R:=h w rfl
theorem tag_start {w0 wA w3:World}{kd:Bool}(hR:wA.heap[w0.heap.size]?=some (.cells #[.int .i64 0,.string ⟨#[]⟩,.slice none 0 0,.bool false,.string ⟨#[]⟩] 81 (0,0)))
  (hT:wA.heap[w0.heap.size+1]?=some (.cells #[.int .i64 (if kd then 2 else 3),.string ⟨#[]⟩,.slice none 0 0,.bool false,.string ⟨#[]⟩] 81 (0,0)))(hM:wA.heap[w0.heap.size+2]?=some (.map #[] 0))(hb0:Below w0.heap.size w0 wA)(hb:Below wA.heap.size wA w3) (nm:ByteArray) :
  w3.cell? ⟨w0.heap.size+1,1,none⟩=some (.string ⟨#[]⟩)/\w3.frozen? ⟨w0.heap.size+1,1,none⟩=false/\TagSt w0 (w3.setCell ⟨w0.heap.size+1,1,none⟩ (.string nm)) kd nm [] 0 (.slice none 0 0):=by
 have a1:=(hb.block _ (lt_of_block hR)).trans hR
 have a2:=(hb.block _ (lt_of_block hT)).trans hT
 have a3:=(hb.block _ (lt_of_block hM)).trans hM
 have ha:atts kd []=[]:=by cases kd <;> rfl
 refine⟨tag_cell a2 1 _ rfl,tag_free a2 1,?_,?_,?_,⟨.map [],?_,⟨[],rfl⟩,?_⟩,Nat.le_refl _,?_⟩
 ·exact (Below.heap_setCell _ _ _ _ (by simp)).trans a1
 ·exact tok_set a2 1 _
 ·rw[ha]
  exact World.ownsRow_nil _ _ _ _
 ·exact⟨#[],0,(Below.heap_setCell _ _ _ _ (by simp)).trans a3,⟨by simp,MapKept.stamped_empty 0,by simp⟩,by simp,rfl⟩
 ·intro n
  exact⟨0,rfl,by omega,by omega,by simp⟩
 ·exact (hb0.trans (hb.mono hb0.size)).setCell (p:=⟨w0.heap.size+1,1,none⟩) (Nat.le_succ _) _
set_option maxRecDepth 100000 in
set_option maxHeartbeats 4000000 in
theorem readTag_any (s:ByteArray) (w:World)(hg:Glob w)(hs:s.size<=4294967280)(hb:beg (bl s)=3) :
  Calls Tryz.prog 62 #[.string s] w fun e w'=>TagPost (tagOf (bl s)) w e w':=by
 obtain⟨d,r,hl⟩:=beg3 hb
 have h1:=ext_one hl
 have hz:=size_ext_one s
 have hs1:2<=s.size:=by rw[<-bl_len,hl];simp
 have hmm:=@run_makeMap Tryz.prog
 have i00:=fun w=>idx0 h1 w
 by_cases hd:d=47
 ·have h2:bl ((s.extract 1 s.size).extract 1 (s.extract 1 s.size).size)=r:=ext_one h1
  have hz2:=size_ext_one (s.extract 1 s.size)
  have hs2:1<=(s.extract 1 s.size).size:=by omega
  rw[hz] at h2 hz2
  generalize hS2:(s.extract 1 s.size).extract 1 (s.size - 1)=S2 at h2 hz2
  obtain⟨NA,S3,HNA,H3,hz3,HP3⟩:=pass_noneE S2 ⟨#[9,10,12,13,32,47,62]⟩ (fun x=>!isNm x) set_nm (by omega)
  obtain⟨z,hzz⟩:∃ z:Int,z=(d.toNat:Int):=⟨_,rfl⟩
  have i0:∀ w,(Instr.index 9 (.string (s.extract 1 s.size)) (.int .i64 0)).run Tryz.prog w=.ok (.int .u8 z) w:=by
   rw[hzz]
   exact i00
  have hzb:(z==47)=true:=by
   rw[hzz,hd]
   rfl
  have hlo:=fun w=>lower_any NA w
  have hLb:bl ⟨(lower (bl NA)).toArray⟩=lower (bl NA):=rfl
  generalize (⟨(lower (bl NA)).toArray⟩:ByteArray)=L at hlo hLb
  have HT:Hid (tagOf (bl s)=(attrsOf [] (bl S3)).map (mkTk false L)):=hide (tag_math false (by rw[hl];simp[hd]) (b:=bl S2) (by rw[h2,hl,hd];rfl) HNA.out H3.out hLb)
  clear i00 hzz hl h1 h2 hb
  go_enter Tryz.func62,Tryz.ntmps62
  go_wp2
  refine wp_scope_all (tagJ w false L (tagOf (bl s)) s.size) (tag_pass w false L (tagOf (bl s)) s.size hs hg) ?_
  go_wp2_with fail
  refine calls_world ?_
  intro wA hwA
  have HW:=hide hwA
  clear hwA
  refine (noneOf_c _ _).mono ?_
  rintro e w1 ⟨rfl,hc1,-,hb1⟩
  go_wp2_with fail
  refine (HP3.out _ _ hc1).mono ?_
  rintro e w2 ⟨rfl,hb2⟩
  go_wp2_with fail
  refine (hlo _).mono ?_
  rintro e w3 ⟨rfl,hb3⟩
  have hbA:=bel2 hb1 (bel2 hb2 (hb3.mono (Nat.le_refl _)))
  obtain⟨d1,d2,hst⟩:=tag_start (w0:=w) (kd:=false) (by rw[HW.out];exact three_a _ _ _ _) (by rw[HW.out];exact three_b _ _ _ _) (by rw[HW.out];exact three_c _ _ _ _) (by rw[HW.out];exact three_w _ _ _ _) hbA L
  have HST:=hide hst
  clear hst hbA hb1 hb2 hb3 hc1
  go_wp2_with fail
  go_step3
  go_step
  go_step
  refine to_between hs rfl (4*S3.size+3) ?_
  unfold JBet
  (repeat apply Exists.intro)
  refine⟨⟨rfl,?_,HST.out,HT⟩,rfl⟩
  omega
 ·obtain⟨NA,S3,HNA,H3,hz3,HP3⟩:=pass_noneE (s.extract 1 s.size) ⟨#[9,10,12,13,32,47,62]⟩ (fun x=>!isNm x) set_nm (by omega)
  obtain⟨z,hzz⟩:∃ z:Int,z=(d.toNat:Int):=⟨_,rfl⟩
  have i0:∀ w,(Instr.index 9 (.string (s.extract 1 s.size)) (.int .i64 0)).run Tryz.prog w=.ok (.int .u8 z) w:=by
   rw[hzz]
   exact i00
  have hzb:(z==47)=false:=beq_eq_false_iff_ne.2 (by
   intro e
   apply hd
   have:d=UInt8.ofNat 47:=(u8_eq (by decide)).2 (by omega)
   exact this)
  have hlo:=fun w=>lower_any NA w
  have hLb:bl ⟨(lower (bl NA)).toArray⟩=lower (bl NA):=rfl
  generalize (⟨(lower (bl NA)).toArray⟩:ByteArray)=L at hlo hLb
  have HT:Hid (tagOf (bl s)=(attrsOf [] (bl S3)).map (mkTk true L)):=hide (tag_math true (by rw[hl];simp[hd]) (b:=bl (s.extract 1 s.size)) (by rw[h1,hl];unfold tagBody;rw[if_neg (by simpa using hd)];rfl) HNA.out H3.out hLb)
  clear i00 hzz hl h1 hb
  go_enter Tryz.func62,Tryz.ntmps62
  go_wp2
  refine wp_scope_all (tagJ w true L (tagOf (bl s)) s.size) (tag_pass w true L (tagOf (bl s)) s.size hs hg) ?_
  go_wp2_with fail
  refine calls_world ?_
  intro wA hwA
  have HW:=hide hwA
  clear hwA
  refine (noneOf_c _ _).mono ?_
  rintro e w1 ⟨rfl,hc1,-,hb1⟩
  go_wp2_with fail
  refine (HP3.out _ _ hc1).mono ?_
  rintro e w2 ⟨rfl,hb2⟩
  go_wp2_with fail
  refine (hlo _).mono ?_
  rintro e w3 ⟨rfl,hb3⟩
  have hbA:=bel2 hb1 (bel2 hb2 (hb3.mono (Nat.le_refl _)))
  obtain⟨d1,d2,hst⟩:=tag_start (w0:=w) (kd:=true) (by rw[HW.out];exact three_a _ _ _ _) (by rw[HW.out];exact three_b _ _ _ _) (by rw[HW.out];exact three_c _ _ _ _) (by rw[HW.out];exact three_w _ _ _ _) hbA L
  have HST:=hide hst
  clear hst hbA hb1 hb2 hb3 hc1
  go_wp2_with fail
  go_step3
  go_step
  go_step
  refine to_between hs rfl (4*S3.size+3) ?_
  unfold JBet
  (repeat apply Exists.intro)
  refine⟨⟨rfl,?_,HST.out,HT⟩,rfl⟩
  omega
end Go.Proofs.YtkiofbikkhhdfaaGreatDoor.To
namespace Utf1
open Go
theorem pl_facts {c:UInt8}(h:nmB [45,95,58] c=true):isNm c=false/\isAt c=false/\isGap c=false/\low8 c=c/\c≠60/\c≠62/\c≠33/\c≠63/\c≠47:=by
 unfold nmB at h
 rw[Bool.or_eq_true,Bool.or_eq_true] at h
 have key:SmallB c->isNm c=false/\isAt c=false/\isGap c=false/\low8 c=c/\c≠60/\c≠62/\c≠33/\c≠63/\c≠47:=by
  intro hs
  obtain⟨a1,a2,a3,a4,a5,a6⟩:=small_facts hs
  exact⟨a1,a2,a3,a4,a5,a6,beq_eq_false_iff_ne.1 (small_ne hs 33 (by decide)),beq_eq_false_iff_ne.1 (small_ne hs 63 (by decide)),beq_eq_false_iff_ne.1 (small_ne hs 47 (by decide))⟩
 rcases h with (h | h) | h
 ·exact key (.inl (of_decide_eq_true h))
 ·exact key (.inr (of_decide_eq_true h))
 ·have h:=of_decide_eq_true h
  simp only[List.mem_cons,List.not_mem_nil,or_false] at h
  rcases h with rfl | rfl | rfl <;> decide
def Plain (n:List UInt8):Prop:=(∃ c t,n=c :: t/\97<=c.toNat/\c.toNat<=122)/\∀ c∈n,nmB [45,95,58] c=true
theorem plain_attr {n:List UInt8}(h:isNmL [45,95,58] n=true):Plain n:=by
 cases n with
 | nil=>cases h
 | cons c t =>
  rw[isNmL,Bool.and_eq_true] at h
  exact⟨⟨c,t,rfl,of_decide_eq_true h.1⟩,List.all_eq_true.1 h.2⟩
theorem plain_elem {n:List UInt8}(h:isNmL [45] n=true):Plain n:=by
 cases n with
 | nil=>cases h
 | cons c t =>
  rw[isNmL,Bool.and_eq_true] at h
  refine⟨⟨c,t,rfl,of_decide_eq_true h.1⟩,fun x hx=>?_⟩
  have:=List.all_eq_true.1 h.2 x hx
  unfold nmB at this ⊢
  rw[Bool.or_eq_true] at this ⊢
  rcases this with h | h
  ·exact .inl h
  ·refine .inr (decide_eq_true ?_)
   have h:=of_decide_eq_true h
   simp only[List.mem_cons,List.not_mem_nil,or_false] at h
   rw[h]
   decide
theorem mayE_plain {n:List UInt8}(h:mayE n=true):Plain n/\rawOf n=none:=by
 unfold mayE at h
 rw[Bool.and_eq_true] at h
 refine⟨plain_elem h.2,?_⟩
 cases hr:rawOf n with
 | none=>rfl
 | some b=>rw[hr] at h;exact absurd h.1 (by simp)
theorem beg_startP (n r:List UInt8)(h:Plain n):beg (60 :: (n++r))=3:=by
 obtain⟨⟨c,t,rfl,h1,h2⟩,hs⟩:=h
 have hc:=pl_facts (hs c (List.mem_cons_self ..))
 have k33:=hc.2.2.2.2.2.2.1
 have k63:=hc.2.2.2.2.2.2.2.1
 rw[beg_lt]
 show beg1 (c :: (t++r))=3
 unfold beg1
 simp only
 rw[if_neg (by simp[List.isPrefixOf,Ne.symm k33]),if_neg (by simp[k33,k63]),if_pos (isLet_small h1 h2)]
theorem beg_endP (n r:List UInt8)(h:Plain n):beg (60 :: 47 :: (n++r))=3:=by
 obtain⟨⟨c,t,rfl,h1,h2⟩,hs⟩:=h
 rw[beg_lt]
 show beg1 (47 :: c :: (t++r))=3
 unfold beg1
 simp only
 rw[if_neg (by simp[List.isPrefixOf]),if_neg (by decide),if_neg (by decide),if_neg (by decide)]
 show beg2 (c :: (t++r))=3
 unfold beg2
 simp only
 rw[if_pos (isLet_small h1 h2)]
theorem getD_startP (n r:List UInt8)(h:Plain n):(60 :: (n++r)).getD 1 0≠47:=by
 obtain⟨⟨c,t,rfl,h1,h2⟩,hs⟩:=h
 exact (pl_facts (hs c (List.mem_cons_self ..))).2.2.2.2.2.2.2.2
theorem nm_allP {n:List UInt8}(h:Plain n):∀ c∈n,(!isNm c)=true:=fun c hc=>by rw[(pl_facts (h.2 c hc)).1];rfl
theorem lowerP (n:List UInt8)(h:∀ c∈n,nmB [45,95,58] c=true):lower n=n:=by
 unfold lower
 induction n with
 | nil=>rfl
 | cons c t ih =>
  rw[List.map_cons,(pl_facts (h c (List.mem_cons_self ..))).2.2.2.1,ih (fun x hx=>h x (List.mem_cons_of_mem _ hx))]
theorem toks_stopP (n r:List UInt8)(h:Plain n):toks (60 :: 47 :: (n++62 :: r))=⟨3,n,[],false,[]⟩ :: toks r:=by
 have hb:tagBody (60 :: 47 :: (n++62 :: r))=n++62 :: r:=by
  unfold tagBody
  rw[if_pos (by rfl)]
  rfl
 have ht:=take_until (p:=fun x=>!isNm x) (d:=62) (by decide) r n (nm_allP h)
 have hk:tagOf (60 :: 47 :: (n++62 :: r))=some (⟨3,n,[],false,[]⟩,r):=by
  unfold tagOf
  rw[hb,ht.2,attrsOf_end [] (62 :: r) r (by rfl)]
  simp only
  rw[if_pos (by rfl),ht.1,lowerP n h.2]
 rw[toks_tag _ r _ (beg_endP n _ h) hk]
 have:withRaw ⟨3,n,[],false,[]⟩ r=([],r):=by
  unfold withRaw
  rw[if_neg (by simp)]
 rw[this]
 rfl
theorem one_attr (a v r:List UInt8) (acc:List (List UInt8 × List UInt8))(ha:Plain a)(hn:a ∉ acc.map Prod.fst):attrsOf acc (32 :: (a++61 :: 34 :: (esc true v++34 :: r)))=attrsOf (acc++[(a,v)]) r:=by
 obtain⟨⟨c,t,rfl,h1,h2⟩,hs⟩:=ha
 have hc:=pl_facts (hs c (List.mem_cons_self ..))
 have hta:∀ x∈t,(!isAt x)=true:=fun x hx=>by rw[(pl_facts (hs x (List.mem_cons_of_mem _ hx))).2.1];rfl
 have h3:=take_until (p:=fun x=>!isAt x) (d:=61) (by decide) (34 :: (esc true v++34 :: r)) t hta
 have h4:=take_until (p:=fun x=>x != (34:UInt8)) (d:=34) (by decide) r (esc true v) (fun x hx=>by simpa using (esc_bytes true v x hx).2.2 rfl)
 have h5:oneAt c (t++61 :: 34 :: (esc true v++34 :: r))=some (c :: t,esc true v,r):=by
  unfold oneAt
  rw[h3.2,h3.1]
  simp only[show (61 :: 34 :: (esc true v++34 :: r)).dropWhile isBl=61 :: 34 :: (esc true v++34 :: r) from rfl,show (34 :: (esc true v++34 :: r)).dropWhile isBl=34 :: (esc true v++34 :: r) from rfl,true_or,if_true]
  rw[h4.1,h4.2]
 rw[attrsOf_one acc _ (t++61 :: 34 :: (esc true v++34 :: r)) c _ _ _ (by
  show List.dropWhile isGap (32 :: c :: _)=_
  rw[List.dropWhile_cons,if_pos (by decide),List.dropWhile_cons,if_neg (by rw[hc.2.2.1];decide)]
  rfl) hc.2.2.2.2.2.1 h5]
 have:addAt acc (lower (c :: t)) (res (esc true v))=acc++[(c :: t,v)]:=by
  rw[lowerP _ hs,res_esc]
  unfold addAt
  rw[if_neg hn]
 rw[this]
theorem all_attrs (r:List UInt8):∀ (a acc:List (List UInt8 × List UInt8)),(∀ kv∈a,Plain kv.1)->((acc++a).map Prod.fst).Nodup->attrsOf acc (atsH a++62 :: r)=some (acc++a,false,r)
 | [],acc,_,_=>by
  rw[show atsH []++62 :: r=62 :: r from rfl,attrsOf_end acc (62 :: r) r (by rfl),List.append_nil]
  rfl
 | (k,v) :: a,acc,h1,h2=>by
  have e:atsH ((k,v) :: a)++62 :: r=32 :: (k++61 :: 34 :: (esc true v++34 :: (atsH a++62 :: r))):=by
   rw[atsH,atH]
   simp only[List.append_assoc,List.cons_append,List.nil_append]
  have hn:k ∉ acc.map Prod.fst:=by
   intro hm
   rw[List.map_append,List.nodup_append] at h2
   exact h2.2.2 k hm k (by simp) rfl
  rw[e,one_attr k v _ acc (h1 (k,v) (List.mem_cons_self ..)) hn,all_attrs r a (acc++[(k,v)]) (fun kv hkv=>h1 kv (List.mem_cons_of_mem _ hkv)) (by rw[List.append_assoc];exact h2),List.append_assoc]
  rfl
theorem mayA_facts {a:List (List UInt8 × List UInt8)}(h:mayA a=true):(∀ kv∈a,Plain kv.1)/\(a.map Prod.fst).Nodup:=by
 unfold mayA at h
 rw[Bool.and_eq_true] at h
 exact⟨fun kv hkv=>plain_attr (List.all_eq_true.1 h.1 kv hkv),of_decide_eq_true h.2⟩
theorem toks_elem (n r:List UInt8) (a:List (List UInt8 × List UInt8))(hn:mayE n=true)(ha:mayA a=true):toks (60 :: (n++(atsH a++62 :: r)))=⟨2,n,a,false,[]⟩ :: toks r:=by
 obtain⟨hp,hraw⟩:=mayE_plain hn
 obtain⟨ha1,ha2⟩:=mayA_facts ha
 have hb:tagBody (60 :: (n++(atsH a++62 :: r)))=n++(atsH a++62 :: r):=by
  unfold tagBody
  rw[if_neg (getD_startP n _ hp)]
  rfl
 obtain⟨d,x,hd,hdx⟩:∃ d x,(fun y=>!isNm y) d=false/\atsH a++62 :: r=d :: x:=by
  cases a with
  | nil=>exact⟨62,r,by decide,rfl⟩
  | cons kv a=>exact⟨32,_,by decide,rfl⟩
 have ht:=take_until (p:=fun x=>!isNm x) hd x n (nm_allP hp)
 rw[<-hdx] at ht
 have hk:tagOf (60 :: (n++(atsH a++62 :: r)))=some (⟨2,n,a,false,[]⟩,r):=by
  unfold tagOf
  rw[hb,ht.2,all_attrs r a [] ha1 (by simpa using ha2)]
  simp only
  rw[if_neg (getD_startP n _ hp),ht.1,lowerP n hp.2]
  rfl
 rw[toks_tag _ r _ (beg_startP n _ hp) hk,withRaw_none _ _ _ _ _ hraw]
 rfl
mutual
def tkN:Nd->List Tk
 | .mk n a t k=>if n=[] then [⟨1,[],[],false,t⟩] else ⟨2,n,a,false,[]⟩ :: (if n∈voids then [] else tkL k++[⟨3,n,[],false,[]⟩])
def tkL:List Nd->List Tk
 | []=>[]
 | n :: r=>tkN n++tkL r
end
theorem ht_beg {p i:Bool}{m:Nd}{q:List Nd}(r:List UInt8)(h:stL p i true (m :: q)=true):beg (htL (m :: q)++r)≠0:=by
 obtain⟨n,a,t,k⟩:=m
 have h1:=(stL_cons h).1
 by_cases hn:n=[]
 ·exact absurd (stN_text hn h1).2.1 (by decide)
 ·have hp:=(mayE_plain (stN_elem hn h1).2.1).1
  rw[htL,htN,if_neg hn]
  simp only[List.append_assoc,List.cons_append,List.nil_append]
  rw[beg_startP n _ hp]
  decide
mutual
theorem toks_htN:∀ (nd:Nd) (p i b:Bool) (r:List UInt8),stN p i b nd=true->(nd.name=[]->r=[]\/beg r≠0)->toks (htN nd++r)=tkN nd++toks r
 | .mk n a t k,p,i,b,r,h,hr=>by
  by_cases hn:n=[]
  ·obtain⟨h1,_,_,_⟩:=stN_text hn h
   rw[htN,tkN,if_pos hn,if_pos hn]
   rcases hr hn with rfl | hr
   ·rw[List.append_nil,toks_esc t h1,toks_nil]
    rfl
   ·rw[toks_ahead _ r hr (esc_ne _ _ h1) (fun c hc=>(esc_bytes false t c hc).1),res_esc]
    rfl
  ·obtain⟨_,h2,h3,_,h4,h5⟩:=stN_elem hn h
   rw[htN,tkN,if_neg hn,if_neg hn]
   by_cases hv:n∈voids
   ·rw[if_pos hv,if_pos hv]
    simp only[List.append_assoc,List.cons_append,List.nil_append]
    rw[toks_elem n r a h2 h3]
   ·rw[if_neg hv,if_neg hv]
    have e:[60]++n++atsH a++[62]++(htL k++([60,47]++n++[62]))++r=60 :: (n++(atsH a++62 :: (htL k++(60 :: 47 :: (n++62 :: r))))):=by simp only[List.append_assoc,List.cons_append,List.nil_append]
    have hp:=(mayE_plain h2).1
    rw[e,toks_elem n _ a h2 h3,toks_htL k _ _ _ (60 :: 47 :: (n++62 :: r)) (h5 hv) (.inr (by rw[beg_endP n _ hp];decide)),toks_stopP n r hp]
    simp only[List.append_assoc,List.cons_append,List.nil_append]
theorem toks_htL:∀ (ns:List Nd) (p i b:Bool) (r:List UInt8),stL p i b ns=true->(r=[]\/beg r≠0)->toks (htL ns++r)=tkL ns++toks r
 | [],_,_,_,r,_,_=>by
  rw[htL,tkL]
  rfl
 | n :: q,p,i,b,r,h,hr=>by
  obtain⟨h1,h2⟩:=stL_cons h
  rw[htL,tkL,List.append_assoc,List.append_assoc,toks_htN n p i b (htL q++r) h1 ?_,toks_htL q _ _ _ r h2 hr]
  intro hn
  rw[decide_eq_true hn] at h2
  cases q with
  | nil=>rw[htL];exact hr
  | cons m q=>exact .inr (ht_beg r h2)
end
theorem toks_stable {ns:List Nd}(h:stable ns=true):toks (htL ns)=tkL ns:=by
 unfold stable at h
 rw[Bool.and_eq_true] at h
 have:=toks_htL ns _ _ _ [] h.2 (.inl rfl)
 rw[List.append_nil,toks_nil,List.append_nil] at this
 exact this
end Utf1
namespace Utf1
end Utf1
namespace Utf1
mutual
def tdN:Nd->List Td
 | .mk n a t k=>if n=[] then [⟨1,[],[],t⟩] else ⟨2,n,a,[]⟩ :: (if n∈voids then [] else tdL k++[⟨3,n,[],[]⟩])
def tdL:List Nd->List Td
 | []=>[]
 | n :: r=>tdN n++tdL r
end
end Utf1
namespace Go.Proofs.YtkiofbikkhhdfaaGreatDoor.Dm
open Go.RowKit
open Utf1
def addKids (nd:Nd) (l:List Nd):Nd:=.mk nd.name nd.attrs nd.text (nd.kids++l)
theorem addKids_nil (nd:Nd):addKids nd []=nd:=by
 cases nd
 simp[addKids,Nd.name,Nd.attrs,Nd.text,Nd.kids]
theorem addKids_cons (nd x:Nd) (l:List Nd):addKids (addKid nd x) l=addKids nd (x :: l):=by
 unfold addKids addKid
 simp[Nd.name,Nd.attrs,Nd.text,Nd.kids]
def noP:List Nd->Prop
 | []=>True
 | [_]=>True
 | nd :: m :: r=>nd.name≠[112]/\noP (m :: r)
def itemR:List Nd->Bool
 | []=>false
 | [_]=>false
 | nd :: m :: r=>if nd.name=[108,105] then true else if nd.name=[117,108]\/nd.name=[111,108] then false else itemR (m :: r)
theorem noP_same {a b:Nd}{q:List Nd}(h:a.name=b.name):noP (a :: q) ↔ noP (b :: q):=by
 cases q with
 | nil=>exact Iff.rfl
 | cons c q=>simp only[noP,h]
theorem item_same {a b:Nd}{q:List Nd}(h:a.name=b.name):itemR (a :: q)=itemR (b :: q):=by
 cases q with
 | nil=>rfl
 | cons c q=>simp only[itemR,h]
theorem inner_noP:∀ r:List Nd,noP r->innerR [[112]] r=0
 | [],_=>rfl
 | [_],_=>by simp[innerR]
 | nd :: m :: r,h=>by
  rw[innerR,if_neg (by simp),if_neg (by simpa using h.1)]
  exact inner_noP (m :: r) h.2
theorem inner_item:∀ r:List Nd,r.getLast?.map Nd.name=some []->itemR r=false->(r.reverse[innerR [[108,105],[117,108],[111,108]] r]?.map Nd.name)≠some [108,105]
 | [],h,_=>by cases h
 | [x],h,_=>by
  have h:some x.name=some []:=by simpa using h
  have e:innerR [[108,105],[117,108],[111,108]] [x]=0:=by simp[innerR]
  rw[e]
  show some x.name≠_
  rw[h]
  simp
 | nd :: m :: r,h,hi=>by
  rw[innerR,if_neg (by simp)]
  rw[itemR] at hi
  by_cases h1:nd.name∈[[108,105],[117,108],[111,108]]
  ·rw[if_pos h1,List.reverse_cons,List.getElem?_append_right (by simp)]
   simp only[List.length_reverse,Nat.sub_self,List.getElem?_cons_zero,Option.map_some]
   intro e
   have e:nd.name=[108,105]:=by simpa using e
   rw[if_pos e] at hi
   cases hi
  ·rw[if_neg h1,List.reverse_cons]
   have hn1:nd.name≠[108,105]:=fun e=>h1 (by rw[e];decide)
   have hn2:¬ (nd.name=[117,108]\/nd.name=[111,108]):=by
    rintro (e | e)
    ·exact h1 (by rw[e];decide)
    ·exact h1 (by rw[e];decide)
   rw[if_neg hn1,if_neg hn2] at hi
   have hlt:innerR [[108,105],[117,108],[111,108]] (m :: r) < (m :: r).length:=innerR_lt _ _ (by simp)
   rw[List.getElem?_append_left (by rw[List.length_reverse];exact hlt)]
   refine inner_item (m :: r) ?_ hi
   rw[List.getLast?_cons_cons] at h
   exact h
theorem way_none {name:List UInt8}{r:List Nd}{t:List UInt8}(hroot:r.getLast?.map Nd.name=some [])(h1:name∈blocks->noP r)(h2:name=[108,105]->itemR r=false):wayR name r t=(r,t):=by
 unfold wayR
 by_cases hb:name∈blocks
 ·rw[if_pos hb]
  have hc:closeIn [[112]] r t=(r,t):=by
   unfold closeIn
   rw[inner_noP r (h1 hb),if_neg (by omega)]
  by_cases hl:name=[108,105]
  ·rw[if_pos hl,hc]
   simp only
   rw[if_neg (inner_item r hroot (h2 hl))]
  ·rw[if_neg hl,hc]
 ·rw[if_neg hb]
theorem end_top (n:List UInt8) (x y:Nd) (q:List Nd) (t:List UInt8) (o m:Nat)(hx:x.name=n):endB n ⟨x :: y :: q,t,o,m⟩=⟨addKid y (textIn x t) :: q,[],o,m⟩:=by
 have hi:innerR [n] (x :: y :: q)=(y :: q).length:=by
  rw[innerR,if_neg (by simp),if_pos (by simp[hx])]
 unfold endB
 simp only[hi]
 rw[if_pos (by simp)]
 unfold shutB
 have:(x :: y :: q).length - (y :: q).length=1:=by simp
 simp only[this]
 rfl
mutual
theorem run_nd:∀ (x:Nd) (p i b:Bool) (nd:Nd) (q:List Nd) (t:List UInt8) (o m:Nat) (y:List Td),stN p i b x=true->(b=false->t=[])->(nd :: q).getLast?.map Nd.name=some []->(p=false->noP (nd :: q))->(i=false->itemR (nd :: q)=false)->o<=64->m+ncN x<=2000->q.length+dpN x<=64 ->
  ∃ nd' t' o',runB (tdN x++y) ⟨nd :: q,t,o,m⟩=runB y ⟨nd' :: q,t',o',m+ncN x⟩/\o'<=64/\nd'.name=nd.name/\textIn nd' t'=addKid (textIn nd t) x/\(x.name≠[]->t'=[])
 | .mk n a tx k,p,i,b,nd,q,t,o,m,y,h,hbt,hroot,hp,hi,ho,hm,hd=>by
  by_cases hn:n=[]
  ·obtain⟨h1,h2,h3,h4⟩:=stN_text hn h
   have ht:=hbt h2
   subst hn
   subst h3
   subst h4
   subst ht
   have hnc:ncN (.mk [] [] tx [])=1:=by rw[ncN];rfl
   rw[hnc] at hm ⊢
   have hk:takeB ⟨1,[],[],tx⟩ ⟨nd :: q,[],o,m⟩=⟨nd :: q,tx,o,m+1⟩:=by
    unfold takeB textB
    rw[if_pos rfl]
    have:newT [] tx=1:=by unfold newT;rw[if_pos ⟨rfl,h1⟩]
    simp only[this,List.nil_append]
   refine⟨nd,tx,o,?_,ho,rfl,?_,fun e=>absurd rfl e⟩
   ·rw[tdN,if_pos rfl]
    show runB (⟨1,[],[],tx⟩ :: y) _=_
    rw[runB,hk,if_pos ⟨ho,hm⟩]
   ·unfold textIn
    rw[if_neg h1,if_pos rfl]
  ·obtain⟨h1,h2,h3,h4,h5,h6⟩:=stN_elem hn h
   rw[Bool.or_eq_false_iff,Bool.and_eq_false_iff,Bool.and_eq_false_iff] at h4
   subst h1
   have hw:wayR n (nd :: q) t=(nd :: q,t):=by
    refine way_none hroot (fun hb=>?_) (fun hl=>?_)
    ·rcases h4.1 with hp' | hb'
     ·exact hp hp'
     ·exact absurd hb (of_decide_eq_false hb')
    ·rcases h4.2 with hi' | hl'
     ·exact hi hi'
     ·exact absurd hl (of_decide_eq_false hl')
   have hnc:ncN (.mk n a [] k)=1+ncL k:=by rw[ncN]
   have hdp:dpN (.mk n a [] k)=dpL k+1:=by rw[dpN,if_neg hn]
   rw[hdp] at hd
   by_cases hv:n∈voids
   ·have hk0:=h5 hv
    subst hk0
    have hst:startB n a ⟨nd :: q,t,o,m⟩=⟨addKid (textIn nd t) (.mk n a [] []) :: q,[],o,m+1⟩:=by
     unfold startB startR
     rw[if_neg hn]
     simp only[hw]
     rw[if_pos hv]
    have hk:takeB ⟨2,n,a,[]⟩ ⟨nd :: q,t,o,m⟩=⟨addKid (textIn nd t) (.mk n a [] []) :: q,[],o,m+1⟩:=by
     unfold takeB
     rw[if_neg (show ¬ ((2:Int)=1) by decide),if_pos rfl]
     exact hst
    have hnc1:ncN (.mk n a [] [])=1:=by rw[ncN];rfl
    rw[hnc1] at hm ⊢
    refine⟨addKid (textIn nd t) (.mk n a [] []),[],o,?_,ho,?_,?_,fun _=>rfl⟩
    ·rw[tdN,if_neg hn,if_pos hv]
     show runB (⟨2,n,a,[]⟩ :: y) _=_
     rw[runB,hk,if_pos ⟨ho,hm⟩]
    ·rw[addKid_root,textIn_name]
    ·unfold textIn
     rw[if_pos rfl]
   ·have hst:startB n a ⟨nd :: q,t,o,m⟩=⟨.mk n a [] [] :: textIn nd t :: q,[],max o (q.length+1),m+1⟩:=by
     unfold startB startR
     rw[if_neg hn]
     simp only[hw]
     rw[if_neg hv]
    have hk:takeB ⟨2,n,a,[]⟩ ⟨nd :: q,t,o,m⟩=⟨.mk n a [] [] :: textIn nd t :: q,[],max o (q.length+1),m+1⟩:=by
     unfold takeB
     rw[if_neg (show ¬ ((2:Int)=1) by decide),if_pos rfl]
     exact hst
    have ho1:max o (q.length+1)<=64:=by omega
    rw[hnc] at hm ⊢
    obtain⟨nd2,t2,o2,e1,e2,e3,e4⟩:=run_nl k (p || decide (n=[112])) (itm i n) false (.mk n a [] []) (textIn nd t :: q) [] (max o (q.length+1)) (m+1) (⟨3,n,[],[]⟩ :: y) (h6 hv) (fun _=>rfl)
     (by rw[List.getLast?_cons_cons];rw[last_name (textIn_name nd t)];exact hroot)
     (by
      intro hp'
      rw[Bool.or_eq_false_iff] at hp'
      exact⟨of_decide_eq_false hp'.2,(noP_same (textIn_name nd t)).2 (hp hp'.1)⟩)
     (by
      intro hi'
      rw[itemR]
      unfold itm at hi'
      show (if n=[108,105] then true else if n=[117,108]\/n=[111,108] then false else itemR (textIn nd t :: q))=false
      by_cases hl:n=[108,105]
      ·rw[if_pos hl] at hi'
       cases hi'
      ·rw[if_neg hl] at hi' ⊢
       by_cases hu:n=[117,108]\/n=[111,108]
       ·rw[if_pos hu]
       ·rw[if_neg hu] at hi' ⊢
        rw[item_same (textIn_name nd t)]
        exact hi hi')
     ho1 (by omega) (by rw[List.length_cons];omega)
    have hx:textIn nd2 t2=.mk n a [] k:=by
     rw[e4]
     unfold textIn
     rw[if_pos rfl]
     rfl
    have hk2:takeB ⟨3,n,[],[]⟩ ⟨nd2 :: textIn nd t :: q,t2,o2,m+1+ncL k⟩=⟨addKid (textIn nd t) (.mk n a [] k) :: q,[],o2,m+1+ncL k⟩:=by
     unfold takeB
     rw[if_neg (show ¬ ((3:Int)=1) by decide),if_neg (show ¬ ((3:Int)=2) by decide),if_pos rfl,<-hx]
     exact end_top n nd2 (textIn nd t) q t2 o2 _ e3
    refine⟨addKid (textIn nd t) (.mk n a [] k),[],o2,?_,e2,?_,?_,fun _=>rfl⟩
    ·rw[tdN,if_neg hn,if_neg hv]
     have:⟨2,n,a,[]⟩ :: (tdL k++[⟨3,n,[],[]⟩])++y=⟨2,n,a,[]⟩ :: (tdL k++(⟨3,n,[],[]⟩ :: y)):=by simp
     rw[this,runB,hk,if_pos ⟨ho1,by show m+1<=2000;omega⟩,e1,runB,hk2,if_pos ⟨e2,by show m+1+ncL k<=2000;omega⟩]
     rw[show m+1+ncL k=m+(1+ncL k) by omega]
    ·rw[addKid_root,textIn_name]
    ·unfold textIn
     rw[if_pos rfl]
theorem run_nl:∀ (l:List Nd) (p i b:Bool) (nd:Nd) (q:List Nd) (t:List UInt8) (o m:Nat) (y:List Td),stL p i b l=true->(b=false->t=[])->(nd :: q).getLast?.map Nd.name=some []->(p=false->noP (nd :: q))->(i=false->itemR (nd :: q)=false)->o<=64->m+ncL l<=2000->q.length+dpL l<=64 ->
  ∃ nd' t' o',runB (tdL l++y) ⟨nd :: q,t,o,m⟩=runB y ⟨nd' :: q,t',o',m+ncL l⟩/\o'<=64/\nd'.name=nd.name/\textIn nd' t'=addKids (textIn nd t) l
 | [],p,i,b,nd,q,t,o,m,y,_,_,_,_,_,ho,_,_=>⟨nd,t,o,by rw[tdL,ncL];rfl,ho,rfl,by rw[addKids_nil]⟩
 | x :: l,p,i,b,nd,q,t,o,m,y,h,hbt,hroot,hp,hi,ho,hm,hd=>by
  obtain⟨h1,h2⟩:=stL_cons h
  rw[ncL] at hm ⊢
  rw[dpL] at hd
  obtain⟨nd1,t1,o1,e1,e2,e3,e4,e5⟩:=run_nd x p i b nd q t o m (tdL l++y) h1 hbt hroot hp hi ho (by omega) (by omega)
  obtain⟨nd2,t2,o2,f1,f2,f3,f4⟩:=run_nl l p i (decide (x.name=[])) nd1 q t1 o1 (m+ncN x) y h2 (fun hx=>e5 (of_decide_eq_false hx)) (by rw[last_name e3];exact hroot) (fun hp'=>(noP_same e3).2 (hp hp')) (fun hi'=>by rw[item_same e3];exact hi hi') e2 (by omega) (by omega)
  refine⟨nd2,t2,o2,?_,f2,f3.trans e3,?_⟩
  ·rw[tdL,List.append_assoc,e1,f1,Nat.add_assoc]
  ·rw[f4,e4,addKids_cons]
end
theorem build_stable {ns:List Nd}(h:stable ns=true):buildB (tdL ns)=some ns:=by
 unfold stable at h
 rw[Bool.and_eq_true,Bool.and_eq_true] at h
 obtain⟨⟨h1,h2⟩,h3⟩:=h
 have h1:=of_decide_eq_true h1
 have h2:=of_decide_eq_true h2
 obtain⟨nd',t',o',e1,e2,e3,e4⟩:=run_nl ns false false false (.mk [] [] [] []) [] [] 0 0 [] h3 (fun _=>rfl) rfl (fun _=>trivial) (fun _=>rfl) (by omega) (by omega) (by simpa using h2)
 rw[List.append_nil] at e1
 unfold buildB bs0
 rw[e1,runB]
 show some (treeB _)=_
 unfold treeB shutB
 simp only[List.length_cons,List.length_nil,Nat.zero_add,Nat.sub_self]
 show some (textIn nd' t').kids=_
 rw[e4]
 unfold textIn addKids
 rw[if_pos rfl]
 rfl
end Go.Proofs.YtkiofbikkhhdfaaGreatDoor.Dm
namespace Utf1
open Go
def NameB (c:UInt8):Prop:=isNm c=false/\¬ (65<=c.toNat/\c.toNat<=90)
structure TkOk (t:Tk):Prop where
 kind:1<=t.kind/\t.kind<=4
 tag:(t.kind=2\/t.kind=3) ↔ t.name≠[]
 text:(t.kind=2\/t.kind=3)->t.text=[]
 only:t.kind≠2->t.closed=false/\t.attrs=[]
 nm:∀ c∈t.name,NameB c
 nodup:(t.attrs.map Prod.fst).Nodup
theorem tk_plain (k:Nat) (x:List UInt8)(h:k=1\/k=4):TkOk ⟨k,[],[],false,x⟩:=by
 refine⟨?_,?_,?_,?_,?_,?_⟩
 ·show 1<=k/\k<=4
  omega
 ·refine⟨fun h'=>?_,fun h'=>absurd rfl h'⟩
  simp only at h'
  omega
 ·intro h'
  simp only at h'
  omega
 ·exact fun _=>⟨rfl,rfl⟩
 ·intro c hc
  cases hc
 ·exact List.nodup_nil
theorem addAt_nodup (acc:List (List UInt8 × List UInt8)) (n v:List UInt8)(h:(acc.map Prod.fst).Nodup):((addAt acc n v).map Prod.fst).Nodup:=by
 unfold addAt
 split
 ·exact h
 ·rename_i hn
  rw[List.map_append,List.nodup_append]
  refine⟨h,by simp,?_⟩
  intro a ha b hb
  have:b=n:=by simpa using hb
  subst this
  intro e
  subst e
  exact hn ha
theorem attrsF_nodup:∀ (n:Nat) (acc:List (List UInt8 × List UInt8)) (s:List UInt8) (a:List (List UInt8 × List UInt8)) (cl:Bool) (r:List UInt8),(acc.map Prod.fst).Nodup->attrsF n acc s=some (a,cl,r)->(a.map Prod.fst).Nodup
 | 0,_,_,_,_,_,_,h=>by cases h
 | n+1,acc,s,a,cl,r,hn,h=>by
  unfold attrsF at h
  split at h
  ·cases h
  ·split at h
   ·cases h
    exact hn
   ·split at h
    ·cases h
    ·exact attrsF_nodup n _ _ _ _ _ (addAt_nodup _ _ _ hn) h
theorem let_nm {c:UInt8}(h:isLet c=true):isNm c=false/\c≠47:=by
 have hc:(97<=c.toNat/\c.toNat<=122)\/(65<=c.toNat/\c.toNat<=90):=by
  unfold isLet at h
  simp only[Bool.or_eq_true,Bool.and_eq_true,decide_eq_true_eq,UInt8.le_iff_toNat_le] at h
  exact h
 have k:∀ k:UInt8,k.toNat < 65->(c==k)=false:=by
  intro k hk
  refine beq_eq_false_iff_ne.2 ?_
  rintro rfl
  omega
 refine⟨?_,beq_eq_false_iff_ne.1 (k 47 (by decide))⟩
 unfold isNm isBl
 rw[k 9 (by decide),k 10 (by decide),k 12 (by decide),k 13 (by decide),k 32 (by decide),k 47 (by decide),k 62 (by decide)]
 rfl
theorem beg_body {l:List UInt8}(h:beg l=3):∃ c t,tagBody l=c :: t/\isLet c=true:=by
 cases l with
 | nil=>cases h
 | cons a t =>
  by_cases ha:a=60
  ·subst ha
   rw[beg_lt] at h
   cases t with
   | nil=>cases h
   | cons c u =>
    unfold beg1 at h
    simp only at h
    split at h
    ·cases h
    ·split at h
     ·cases h
     ·split at h
      ·rename_i hc
       refine⟨c,u,?_,hc⟩
       unfold tagBody
       rw[if_neg (show (60 :: c :: u).getD 1 0≠47 from (let_nm hc).2)]
       rfl
      ·split at h
       ·cases h
       ·rename_i h47
        have h47:c=47:=by simpa using h47
        subst h47
        cases u with
        | nil=>cases h
        | cons d v =>
         unfold beg2 at h
         simp only at h
         split at h
         ·rename_i hd
          refine⟨d,v,?_,hd⟩
          unfold tagBody
          rw[if_pos (by rfl)]
          rfl
         ·cases h
  ·rw[beg_ne t ha] at h
   cases h
theorem takeWhile_all {p:UInt8->Bool}:∀ (l:List UInt8),∀ c∈l.takeWhile p,p c=true
 | [],c,h=>by cases h
 | a :: t,c,h=>by
  rw[List.takeWhile_cons] at h
  split at h
  ·rename_i ha
   rcases List.mem_cons.1 h with rfl | h
   ·exact ha
   ·exact takeWhile_all t c h
  ·cases h
theorem low_nm (d:UInt8)(h:isNm d=false):isNm (low8 d)=false:=by
 unfold low8
 split
 ·rename_i hd
  have hs:SmallB (UInt8.ofNat (d.toNat+32)):=.inl (by rw[toNat_ofNat (by omega)];omega)
  exact (small_facts hs).1
 ·exact h
theorem name_bytes (s:List UInt8):∀ c∈lower (s.takeWhile (fun x=>!isNm x)),NameB c:=by
 intro c hc
 refine⟨?_,lower_no _ c hc⟩
 unfold lower at hc
 obtain⟨d,hd,rfl⟩:=List.mem_map.1 hc
 have:=takeWhile_all s d hd
 exact low_nm d (by simpa using this)
theorem tagOf_ok {l r:List UInt8}{k:Tk}(hb:beg l=3)(h:tagOf l=some (k,r)):TkOk k:=by
 obtain⟨c,t,hbody,hc⟩:=beg_body hb
 have hne:lower ((tagBody l).takeWhile (fun x=>!isNm x))≠[]:=by
  rw[hbody,List.takeWhile_cons,if_pos (by rw[(let_nm hc).1];rfl)]
  simp[lower]
 unfold tagOf at h
 split at h
 ·cases h
 ·rename_i a cl q he
  have hn:=attrsF_nodup _ _ _ _ _ _ (by simp) he
  cases h
  split
  ·refine⟨by simp,?_,fun _=>rfl,fun _=>⟨rfl,rfl⟩,name_bytes _,by simp⟩
   exact⟨fun _=>hne,fun _=>.inr rfl⟩
  ·refine⟨by simp,?_,fun _=>rfl,fun h=>absurd rfl h,name_bytes _,hn⟩
   exact⟨fun _=>hne,fun _=>.inl rfl⟩
theorem toksF_ok:∀ (n:Nat) (l:List UInt8),∀ t∈toksF n l,TkOk t
 | 0,_,t,h=>by cases h
 | _+1,[],t,h=>by cases h
 | n+1,c :: u,t,h=>by
  unfold toksF at h
  split at h
  ·rcases List.mem_cons.1 h with rfl | h
   ·exact tk_plain _ _ (.inr rfl)
   ·exact toksF_ok n _ t h
  ·split at h
   ·exact toksF_ok n _ t h
   ·split at h
    ·rename_i h3
     split at h
     ·cases h
     ·rename_i k r hk
      rcases List.mem_cons.1 h with rfl | h
      ·exact tagOf_ok h3 hk
      ·rcases List.mem_append.1 h with h | h
       ·unfold withRaw at h
        split at h
        ·split at h
         ·cases h
         ·split at h
          ·cases h
          ·rw[List.mem_singleton.1 h]
           exact tk_plain _ _ (.inl rfl)
        ·cases h
       ·exact toksF_ok n _ t h
    ·rcases List.mem_cons.1 h with rfl | h
     ·exact tk_plain _ _ (.inl rfl)
     ·exact toksF_ok n _ t h
theorem withRaw_cnt (t:Tk) (r:List UInt8):(withRaw t r).1.length+(withRaw t r).2.length<=r.length:=by
 unfold withRaw
 split
 ·split
  ·simp
  ·split
   ·simp
   ·rename_i h
    have:=rawLen_le t.name r
    simp
    omega
 ·simp
theorem toksF_many:∀ (n:Nat) (l:List UInt8),(toksF n l).length<=l.length
 | 0,_=>Nat.zero_le _
 | _+1,[]=>Nat.zero_le _
 | n+1,c :: u=>by
  unfold toksF
  split
  ·have h1:=cut_len ((c :: u).drop 4) [45,45,62] (by decide)
   have h2:=toksF_many n (Lib.cut ((c :: u).drop 4) [45,45,62]).2.1
   rw[List.length_drop] at h1
   simp only[List.length_cons] at h1 ⊢
   omega
  ·split
   ·have h1:=cut_len (c :: u) [62] (by decide)
    have h2:=toksF_many n (Lib.cut (c :: u) [62]).2.1
    omega
   ·split
    ·split
     ·exact Nat.zero_le _
     ·rename_i k r hk
      have h4:=tagOf_len hk
      have h5:=withRaw_cnt k r
      have h6:=toksF_many n (withRaw k r).2
      simp only[List.length_cons,List.length_append] at h4 ⊢
      omega
    ·rename_i h1 h2 h3
     have h0:beg (c :: u)=0:=by have:=beg_le (c :: u);omega
     have h6:=stop_pos c u h0
     have h7:=toksF_many n ((c :: u).drop (stop (c :: u)))
     rw[List.length_drop] at h7
     simp only[List.length_cons] at h7 ⊢
     omega
theorem toks_many (l:List UInt8):(toks l).length<=l.length:=toksF_many _ _
theorem toks_ok (l:List UInt8):∀ t∈toks l,TkOk t:=toksF_ok _ _
end Utf1
namespace Utf1
open Go
def kw (k:Tk):Nat:=1+k.name.length+k.text.length+waL k.attrs
def kws:List Tk->Nat
 | []=>0
 | k :: r=>kw k+kws r
theorem kws_app:∀ a b,kws (a++b)=kws a+kws b
 | [],b=>by simp[kws]
 | k :: a,b=>by
  rw[List.cons_append,kws,kws,kws_app a b]
  omega
theorem two_len {α:Type}(p:α->Bool) (l:List α):(l.takeWhile p).length+(l.dropWhile p).length=l.length:=by
 rw[<-List.length_append,List.takeWhile_append_dropWhile]
theorem oneAt_sum {c:UInt8}{t nm v r:List UInt8}(h:oneAt c t=some (nm,v,r)):nm.length+v.length+r.length<=t.length+1/\1<=nm.length:=by
 have h1:=two_len (fun x=>!isAt x) t
 unfold oneAt at h
 have h2:=drop_le isBl (t.dropWhile (fun x=>!isAt x))
 split at h
 ·rename_i u hu
  rw[hu] at h2
  simp only[List.length_cons] at h2
  have h3:=drop_le isBl u
  split at h
  ·rename_i q v0 hv
   rw[hv] at h3
   simp only[List.length_cons] at h3
   split at h
   ·have h4:=two_len (fun x=>x != q) v0
    split at h
    ·cases h
    ·rename_i x r0 hr
     rw[hr] at h4
     simp only[List.length_cons] at h4
     cases h
     simp only[List.length_cons]
     omega
   ·have h4:=two_len (fun x=>!isVa x) (q :: v0)
    simp only[List.length_cons] at h4
    cases h
    simp only[List.length_cons]
    omega
  ·cases h
   simp only[List.length_cons,List.length_nil]
   omega
 ·rename_i s2 _
  cases h
  simp only[List.length_cons,List.length_nil]
  omega
theorem lower_len (l:List UInt8):(lower l).length=l.length:=by
 unfold lower
 rw[List.length_map]
theorem waL_add (acc:List (List UInt8 × List UInt8)) (n v:List UInt8):waL (addAt acc n v)<=waL acc+(1+n.length+v.length):=by
 unfold addAt
 split
 ·omega
 ·rw[waL_app]
  show _+(1+n.length+v.length+0)<=_
  omega
theorem attrsF_sum:∀ (n:Nat) (acc:List (List UInt8 × List UInt8)) (s:List UInt8) (a:List (List UInt8 × List UInt8)) (cl:Bool) (r:List UInt8),attrsF n acc s=some (a,cl,r)->waL a+2*r.length<=waL acc+2*s.length
 | 0,_,_,_,_,_,h=>by cases h
 | n+1,acc,s,a,cl,r,h=>by
  unfold attrsF at h
  have h1:=drop_le isGap s
  split at h
  ·cases h
  ·rename_i c t he
   rw[he] at h1
   simp only[List.length_cons] at h1
   split at h
   ·cases h
    omega
   ·split at h
    ·cases h
    ·rename_i nm v q h1a
     have h2:=oneAt_sum h1a
     have h3:=attrsF_sum n _ _ _ _ _ h
     have h4:=waL_add acc (lower nm) (res v)
     rw[lower_len] at h4
     have h5:=res_len v
     omega
theorem tagOf_sum {l r:List UInt8}{k:Tk}(hl:2<=l.length)(h:tagOf l=some (k,r)):kw k+2*r.length<=2*l.length:=by
 unfold tagOf at h
 split at h
 ·cases h
 ·rename_i a cl q he
  cases h
  have h1:=attrsF_sum _ _ _ _ _ _ he
  have h2:=two_len (fun x=>!isNm x) (tagBody l)
  have h3:(tagBody l).length+1<=l.length:=by
   unfold tagBody
   split <;> (rw[List.length_drop];omega)
  have hw:waL ([]:List (List UInt8 × List UInt8))=0:=rfl
  rw[hw] at h1
  split
  ·unfold kw
   simp only[lower_len,List.length_nil,hw]
   omega
  ·unfold kw
   simp only[lower_len,List.length_nil]
   omega
theorem withRaw_sum (t:Tk) (r:List UInt8):kws (withRaw t r).1+2*(withRaw t r).2.length<=2*r.length:=by
 unfold withRaw
 split
 ·split
  ·show 0+2*r.length<=_
   omega
  ·rename_i b _
   split
   ·show 0+2*r.length<=_
    omega
   ·rename_i hne
    have h1:=rawLen_le t.name r
    have h2:=res_len (r.take (rawLen t.name r))
    simp only[kws,kw,List.length_drop,List.length_nil]
    have hw:waL ([]:List (List UInt8 × List UInt8))=0:=rfl
    rw[hw]
    rw[List.length_take] at h2
    split
    ·omega
    ·rw[List.length_take]
     omega
 ·show 0+2*r.length<=_
  omega
theorem beg_len {l:List UInt8}(h:beg l=3):2<=l.length:=by
 match l,h with
 | [],h=>exact absurd h (by decide)
 | [c],h =>
  exfalso
  by_cases hc:c=60
  ·subst hc
   exact absurd h (by decide)
  ·rw[beg_ne [] hc] at h
   exact absurd h (by decide)
 | a :: b :: t,_=>simp
theorem cut_sum (s sep:List UInt8):(Lib.cut s sep).1.length+(Lib.cut s sep).2.1.length<=s.length:=by
 unfold Lib.cut
 split
 ·simp only[List.length_take,List.length_drop]
  omega
 ·simp
theorem toksF_sum:∀ (n:Nat) (l:List UInt8),kws (toksF n l)<=2*l.length
 | 0,l=>Nat.zero_le _
 | n+1,[]=>Nat.zero_le _
 | n+1,c :: t=>by
  unfold toksF
  by_cases h1:beg (c :: t)=1
  ·rw[if_pos h1,kws]
   have h2:=toksF_sum n (Lib.cut ((c :: t).drop 4) [45,45,62]).2.1
   have h3:=cut_sum ((c :: t).drop 4) [45,45,62]
   rw[List.length_drop] at h3
   simp only[kw,List.length_nil]
   have hw:waL ([]:List (List UInt8 × List UInt8))=0:=rfl
   rw[hw]
   have h4:1<=(c :: t).length:=by simp
   omega
  ·rw[if_neg h1]
   by_cases h2:beg (c :: t)=2
   ·rw[if_pos h2]
    have h3:=toksF_sum n (Lib.cut (c :: t) [62]).2.1
    have h4:=cut_sum (c :: t) [62]
    omega
   ·rw[if_neg h2]
    by_cases h3:beg (c :: t)=3
    ·rw[if_pos h3]
     split
     ·exact Nat.zero_le _
     ·rename_i k r hk
      have h4:=tagOf_sum (beg_len h3) hk
      have h5:=withRaw_sum k r
      have h6:=toksF_sum n (withRaw k r).2
      rw[kws,kws_app]
      omega
    ·rw[if_neg h3,kws]
     have hb:beg (c :: t)=0:=by
      have:=beg_le (c :: t)
      omega
     have h4:=stop_pos c t hb
     have h5:=stop_le (c :: t)
     have h6:=toksF_sum n ((c :: t).drop (stop (c :: t)))
     have h7:=res_len ((c :: t).take (stop (c :: t)))
     rw[List.length_drop] at h6
     rw[List.length_take] at h7
     simp only[kw,List.length_nil]
     have hw:waL ([]:List (List UInt8 × List UInt8))=0:=rfl
     rw[hw]
     omega
theorem toks_sum (l:List UInt8):kws (toks l)<=2*l.length:=toksF_sum _ _
end Utf1
namespace Go.Proofs.YtkiofbikkhhdfaaGreatDoor
open Go.RowKit
open Utf1 Pol8
set_option maxRecDepth 100000 in
set_option maxHeartbeats 8000000 in
theorem pdropped_any (n:ByteArray) (w:World) :
  Calls Tryz.prog 17 #[.string n] w fun e w'=>e=.returned (.bool (San.dropB (bl n)))/\w'=w:=by
 have C0:=hide (Dm.raw_any n)
 obtain⟨R,hR⟩:∃ R,R=San.dropB (bl n):=⟨_,rfl⟩
 rw[<-hR]
 unfold San.dropB at hR
 have g0:=eq_lit n [101,109,98,101,100]
 by_cases h0:bl n=[101,109,98,101,100]
 ·rw[decide_eq_true h0] at g0
  have HR:Hid (R=true):=hide (by rw[hR,decide_eq_true (show bl n∈San.dropL by rw[h0];decide),Bool.or_true])
  clear hR C0 h0
  go_enter Tryz.func17,Tryz.ntmps17
  go_wp2_with fail
  go_ret
  rw[HR.out]
  exact⟨rfl,rfl⟩
 rw[decide_eq_false h0] at g0
 have g1:=eq_lit n [102,111,114,109]
 by_cases h1:bl n=[102,111,114,109]
 ·rw[decide_eq_true h1] at g1
  have HR:Hid (R=true):=hide (by rw[hR,decide_eq_true (show bl n∈San.dropL by rw[h1];decide),Bool.or_true])
  clear hR C0 h0 h1
  go_enter Tryz.func17,Tryz.ntmps17
  go_wp2_with fail
  go_ret
  rw[HR.out]
  exact⟨rfl,rfl⟩
 rw[decide_eq_false h1] at g1
 have g2:=eq_lit n [109,97,116,104]
 by_cases h2:bl n=[109,97,116,104]
 ·rw[decide_eq_true h2] at g2
  have HR:Hid (R=true):=hide (by rw[hR,decide_eq_true (show bl n∈San.dropL by rw[h2];decide),Bool.or_true])
  clear hR C0 h0 h1 h2
  go_enter Tryz.func17,Tryz.ntmps17
  go_wp2_with fail
  go_ret
  rw[HR.out]
  exact⟨rfl,rfl⟩
 rw[decide_eq_false h2] at g2
 have g3:=eq_lit n [111,98,106,101,99,116]
 by_cases h3:bl n=[111,98,106,101,99,116]
 ·rw[decide_eq_true h3] at g3
  have HR:Hid (R=true):=hide (by rw[hR,decide_eq_true (show bl n∈San.dropL by rw[h3];decide),Bool.or_true])
  clear hR C0 h0 h1 h2 h3
  go_enter Tryz.func17,Tryz.ntmps17
  go_wp2_with fail
  go_ret
  rw[HR.out]
  exact⟨rfl,rfl⟩
 rw[decide_eq_false h3] at g3
 have g4:=eq_lit n [115,101,108,101,99,116]
 by_cases h4:bl n=[115,101,108,101,99,116]
 ·rw[decide_eq_true h4] at g4
  have HR:Hid (R=true):=hide (by rw[hR,decide_eq_true (show bl n∈San.dropL by rw[h4];decide),Bool.or_true])
  clear hR C0 h0 h1 h2 h3 h4
  go_enter Tryz.func17,Tryz.ntmps17
  go_wp2_with fail
  go_ret
  rw[HR.out]
  exact⟨rfl,rfl⟩
 rw[decide_eq_false h4] at g4
 have g5:=eq_lit n [115,118,103]
 by_cases h5:bl n=[115,118,103]
 ·rw[decide_eq_true h5] at g5
  have HR:Hid (R=true):=hide (by rw[hR,decide_eq_true (show bl n∈San.dropL by rw[h5];decide),Bool.or_true])
  clear hR C0 h0 h1 h2 h3 h4 h5
  go_enter Tryz.func17,Tryz.ntmps17
  go_wp2_with fail
  go_ret
  rw[HR.out]
  exact⟨rfl,rfl⟩
 rw[decide_eq_false h5] at g5
 have g6:=eq_lit n [116,101,109,112,108,97,116,101]
 by_cases h6:bl n=[116,101,109,112,108,97,116,101]
 ·rw[decide_eq_true h6] at g6
  have HR:Hid (R=true):=hide (by rw[hR,decide_eq_true (show bl n∈San.dropL by rw[h6];decide),Bool.or_true])
  clear hR C0 h0 h1 h2 h3 h4 h5 h6
  go_enter Tryz.func17,Tryz.ntmps17
  go_wp2_with fail
  go_ret
  rw[HR.out]
  exact⟨rfl,rfl⟩
 rw[decide_eq_false h6] at g6
 have g7:=eq_lit n [110,111,115,99,114,105,112,116]
 by_cases h7:bl n=[110,111,115,99,114,105,112,116]
 ·rw[decide_eq_true h7] at g7
  have HR:Hid (R=true):=hide (by rw[hR,decide_eq_true (show bl n∈San.dropL by rw[h7];decide),Bool.or_true])
  clear hR C0 h0 h1 h2 h3 h4 h5 h6 h7
  go_enter Tryz.func17,Tryz.ntmps17
  go_wp2_with fail
  go_ret
  rw[HR.out]
  exact⟨rfl,rfl⟩
 rw[decide_eq_false h7] at g7
 have g8:=eq_lit n [102,114,97,109,101,115,101,116]
 by_cases h8:bl n=[102,114,97,109,101,115,101,116]
 ·rw[decide_eq_true h8] at g8
  have HR:Hid (R=true):=hide (by rw[hR,decide_eq_true (show bl n∈San.dropL by rw[h8];decide),Bool.or_true])
  clear hR C0 h0 h1 h2 h3 h4 h5 h6 h7 h8
  go_enter Tryz.func17,Tryz.ntmps17
  go_wp2_with fail
  go_ret
  rw[HR.out]
  exact⟨rfl,rfl⟩
 rw[decide_eq_false h8] at g8
 have HR:Hid (R=(rawOf (bl n)).isSome):=hide (by
  rw[hR,decide_eq_false,Bool.or_false]
  simp only[San.dropL,List.mem_cons,List.not_mem_nil,or_false,not_or]
  exact⟨h0,h1,h2,h3,h4,h5,h6,h7,h8⟩)
 clear h0 h1 h2 h3 h4 h5 h6 h7 h8 hR
 generalize (rawOf (bl n)).getD false=g at C0
 generalize (rawOf (bl n)).isSome=r1 at C0 HR
 go_enter Tryz.func17,Tryz.ntmps17
 go_wp2_with fail
 refine (C0.out _).mono ?_
 rintro e w1 ⟨rfl,rfl⟩
 clear C0
 go_wp2_with fail
 go_ret
 rw[HR.out]
 exact⟨rfl,rfl⟩
end Go.Proofs.YtkiofbikkhhdfaaGreatDoor

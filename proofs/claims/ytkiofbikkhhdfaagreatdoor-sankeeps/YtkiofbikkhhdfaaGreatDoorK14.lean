import Derived.Test.YtkiofbikkhhdfaaGreatDoorK03
import Derived.Deep.RegionHeld
import Derived.Test.YtkiofbikkhhdfaaGreatDoorK13
import Derived.Deep.LoopGhost
import Derived.Lib.FrozenHead
import Derived.Lib.OthersKept
namespace Go.Proofs.YtkiofbikkhhdfaaGreatDoor
open Go.RowKit
section
variable {P:Program}{ops:Array Oper}{Q:Exit->Act->World->Prop}{md:Region.Mode}{S:World->Prop}{m:Nat}
def wpU (P:Program) (md:Region.Mode) (ops:Array Oper) (Q:Exit->Act->World->Prop) (m:Nat) (S:World->Prop):Nat->Array Bool->Act->World->Prop
 | 0,listed,a,w=>Region.ready md ops listed=[]/\Q .normal a w
 | fuel+1,listed,a,w=>(Region.ready md ops listed=[]->Q .normal a w)/\∀ i∈Region.ready md ops listed,wpOp P ops Q i (fun a' w'=>if i=m then wpAny P md ops Q fuel (listed.setIfInBounds i true) a' w' else S w'/\wpU P md ops Q m S fuel (listed.setIfInBounds i true) a' w') a w
theorem wpU_any:∀ (fuel:Nat) (listed:Array Bool) (a:Act) (w:World),wpU P md ops Q m S fuel listed a w->wpAny P md ops Q fuel listed a w
 | 0,_,_,_,h=>h
 | fuel+1,_,_,_,h=>⟨h.1,fun i hi=>wpOp_mono (fun a' w' h'=>by
   by_cases e:i=m
   ·rw[if_pos e] at h'
    exact h'
   ·rw[if_neg e] at h'
    exact wpU_any fuel _ a' w' h'.2) (h.2 i hi)⟩
def waitsFor (md:Region.Mode) (ops:Array Oper) (m i:Nat):Bool:=match ops[m]? with
 | some o=>o.after.any fun e=>Region.binds md e && decide (e.on=i)
 | none=>false
theorem not_up {i:Nat}(hw:waitsFor md ops m i=true) {listed:Array Bool}(hi:i∈Region.ready md ops listed):m ∉ Region.ready md ops listed:=by
 intro hm
 obtain⟨_,o,ho,hall⟩:=mem_ready.1 hm
 have h0:=(mem_ready.1 hi).1
 unfold waitsFor at hw
 rw[ho] at hw
 obtain⟨e,he,hb⟩:=Array.any_eq_true'.1 hw
 rw[Bool.and_eq_true,decide_eq_true_eq] at hb
 have h1:=hall e he hb.1
 rw[hb.2] at h1
 rcases Nat.lt_or_ge i listed.size with h | h
 ·simp[h] at h0 h1
  rw[h0] at h1
  cases h1
 ·simp[Array.getElem?_eq_none h] at h1
theorem wpU_first {i:Nat}{oi:Oper}{v:Value}(hi:ops[i]?=some oi)(hsel:∀ (j:Nat) (o:Oper) cs b,ops[j]?=some o->o.op≠.select cs b)(hQ:∀ c a w,Q (.panic c) (a.put oi.dst v) w->Q (.panic c) a w)(hw:waitsFor md ops m i=true) :
  ∀ (fuel:Nat) (listed:Array Bool) (a:Act) (w:World),(∀ j oj,ops[j]?=some oj->j≠i->listed.getD j true=false->(∀ e∈oj.after,Region.binds md e=true->e.on≠i)->oi.apart ops oj=true) ->
   i∈Region.ready md ops listed->YieldsIf P ops S oi v a->S w->wpU P md ops Q m S fuel (listed.setIfInBounds i true) (a.put oi.dst v) w->wpU P md ops Q m S (fuel+1) listed a w
 | 0,listed,a,w,_,hr,hy,hS,H=>by
  have him:i≠m:=fun e=>not_up hw hr (e ▸ hr)
  refine⟨fun h=>(by rw[h] at hr;cases hr),fun j hj=>?_⟩
  by_cases hji:j=i
  ·subst hji
   exact hy.wpOp hi hS (by rw[if_neg him];exact⟨hS,H⟩)
  ·have h:=ready_mono hj hji
   rw[H.1] at h
   cases h
 | fuel+1,listed,a,w,hfree,hr,hy,hS,H=>by
  have him:i≠m:=fun e=>not_up hw hr (e ▸ hr)
  refine⟨fun h=>(by rw[h] at hr;cases hr),fun j hj=>?_⟩
  by_cases hji:j=i
  ·subst hji
   exact hy.wpOp hi hS (by rw[if_neg him];exact⟨hS,H⟩)
  have hjm:j≠m:=fun e=>not_up hw hr (e ▸ hj)
  obtain⟨hjun,oj,hoj,hall⟩:=mem_ready.1 hj
  have hnot:∀ e∈oj.after,Region.binds md e=true->e.on≠i:=fun e he hb heq=>by
   have h1:=hall e he hb
   have h0:=(mem_ready.1 hr).1
   rw[heq] at h1
   rcases Nat.lt_or_ge i listed.size with h' | h'
   ·simp[h'] at h0 h1
    rw[h0] at h1
    cases h1
   ·simp[Array.getElem?_eq_none h'] at h1
  have h2:=wpOp_putIf hoj (hfree j oj hoj hji hjun hnot) (fun cs b=>hsel i oi cs b hi) (fun cs b=>hsel j oj cs b hoj) hQ hy (H.2 j (ready_mono hj hji))
  refine wpOp_mono (fun a' w' h3=>?_) h2
  obtain⟨h4,h5⟩:=h3
  rw[if_neg hjm] at h5 ⊢
  refine⟨h5.1,wpU_first hi hsel hQ hw fuel _ a' w' (fun k ok hk hki hun hno=>hfree k ok hk hki ?_ hno) (ready_mono hr (Ne.symm hji)) h4 h5.1 ?_⟩
  ·by_cases hjk:j=k
   ·subst hjk
    exact hjun
   ·rw[getD_set_ne true hjk] at hun
    exact hun
  ·rw[Array.setIfInBounds_comm _ _ hji]
   exact h5.2
theorem wpU_at {i:Nat}{oi:Oper}{v:Value}{fuel:Nat}{listed:Array Bool}{a a1:Act}{w:World}(hi:ops[i]?=some oi)(hs:Region.noSelect ops=true)(hf:Region.free md ops listed i=true)(hr:(Region.ready md ops listed).contains i=true)
  (hw:waitsFor md ops m i=true)(hQ:∀ c a w,Q (.panic c) (a.put oi.dst v) w->Q (.panic c) a w)(hy:YieldsIf P ops S oi v a)(hS:S w)(ha:a.put oi.dst v=a1)(h:wpU P md ops Q m S fuel (listed.setIfInBounds i true) a1 w):wpU P md ops Q m S (fuel+1) listed a w :=
 wpU_first hi (Region.noSelect_spec hs) hQ hw fuel listed a w (Region.free_spec hi hf) (by simpa using hr) hy hS (ha ▸ h)
def AllU (P:Program) (md:Region.Mode) (ops:Array Oper) (Q:Exit->Act->World->Prop) (m:Nat) (S:World->Prop) (fuel:Nat) (listed:Array Bool) (a:Act) (w:World) (rs:List Nat):Prop :=
 ∀ i∈rs,wpOp P ops Q i (fun a' w'=>if i=m then wpAny P md ops Q fuel (listed.setIfInBounds i true) a' w' else S w'/\wpU P md ops Q m S fuel (listed.setIfInBounds i true) a' w') a w
theorem AllU.nil {fuel:Nat}{listed:Array Bool}{a:Act}{w:World}:AllU P md ops Q m S fuel listed a w []:=fun _ h=>by cases h
theorem AllU.cons {fuel:Nat}{listed:Array Bool}{a:Act}{w:World}{i:Nat}{o:Oper}{rs:List Nat}(hm:i≠m)(ho:ops[i]?=some o)
  (h:∀ K':Act->World->Prop,Shut (∀ a w,S w->(S w->wpU P md ops Q m S fuel (listed.setIfInBounds i true) a w)->K' a w)->if Region.wanted o (yielded ops a.tmps)=true then Oper.wp P o a w K' Q else K' (a.put o.dst undef) w)
  (hs:AllU P md ops Q m S fuel listed a w rs):AllU P md ops Q m S fuel listed a w (i :: rs):=fun j hj=>by
 rcases List.mem_cons.1 hj with rfl | hj
 ·exact wpOp_step ho (fun K' hK=>h K' (fun a w hS hW=>hK a w (by rw[if_neg hm];exact⟨hS,hW hS⟩)))
 ·exact hs j hj
theorem AllU.last {fuel:Nat}{listed:Array Bool}{a:Act}{w:World}{o:Oper}(ho:ops[m]?=some o)
  (h:∀ K':Act->World->Prop,Shut (∀ a w,wpAny P md ops Q fuel (listed.setIfInBounds m true) a w->K' a w)->if Region.wanted o (yielded ops a.tmps)=true then Oper.wp P o a w K' Q else K' (a.put o.dst undef) w):AllU P md ops Q m S fuel listed a w [m]:=fun j hj=>by
 rw[List.mem_singleton.1 hj]
 exact wpOp_step ho (fun K' hK=>h K' (fun a w hW=>hK a w (by rw[if_pos rfl];exact hW)))
theorem wpU_ready {rs:List Nat}{fuel:Nat}{listed:Array Bool}{a:Act}{w:World}(hr:Region.ready md ops listed=rs)(hne:rs≠[])(h:AllU P md ops Q m S fuel listed a w rs):wpU P md ops Q m S (fuel+1) listed a w :=
 ⟨fun h0=>absurd (hr ▸ h0) hne,hr ▸ h⟩
theorem wp_region_until {id:Nat}{a:Act}{w:World}(hm:P.follows .mixedOrders=true)(hS:S w.drew)(h:S w.drew->wpU P .any ops Q m S ops.size (Array.replicate ops.size false) a w.drew):(Code.region id ops true).wp P Q a w :=
 wp_region_any hm (wpU_any _ _ _ _ (h hS))
end
end Go.Proofs.YtkiofbikkhhdfaaGreatDoor
namespace Go.Proofs.YtkiofbikkhhdfaaGreatDoor.Sy
open Go.RowKit Go.WideMaps
open Utf1 Sty
def tellV (Hb:Nat):Value:=.func (.func 193) #[] #[.pointer (some ⟨Hb,0,none⟩),.pointer (some ⟨Hb+1,0,none⟩),.pointer (some ⟨Hb+3,0,none⟩)]
theorem stay_semi (props:List L) (p r:L)(h:(59:UInt8) ∉ p):stay props (p++59 :: r)=(pp p).toList.filter (keep props)++stay props r:=by
 unfold stay prts
 rw[segs_semi p r h]
 cases hp:pp p with
 | none=>rw[List.filterMap_cons_none hp];simp
 | some x=>rw[List.filterMap_cons_some hp,List.filter_cons];simp[List.filter_cons];split <;> simp
theorem stay_end (props:List L) (p:L)(h:(59:UInt8) ∉ p):stay props p=(pp p).toList.filter (keep props):=by
 unfold stay prts
 rw[segs_end p h]
 cases hp:pp p with
 | none=>rw[List.filterMap_cons_none hp];simp
 | some x=>rw[List.filterMap_cons_some hp];simp
theorem pp_none (p:L)(h:(58:UInt8) ∉ p):(pp p).toList=[]:=by
 unfold pp
 rw[part_none p h]
 rfl
theorem pp_some (a b:L)(h:(58:UInt8) ∉ a):(pp (a++58 :: b)).toList=[(pl a,pl b)]:=by
 unfold pp
 rw[part_some a b h]
 rfl
theorem filter_len (f:NV->Bool) (x:NV):([x].filter f).length<=1:=by
 rw[List.filter_cons]
 split <;> simp
theorem part_told (Hb:Nat) (v:Value) (ss:List ByteArray) (st:List NV) (A B:ByteArray) (w0 w:World)(h0:w0.heap.size=Hb)(hi:Inv Hb v st w)(hv:StrArg w0 v ss)(hb:Below Hb w0 w)(hA:A.size<=100000)(hB:B.size<=100000)(hst:st.length<=100000)(hl:ss.length<=100000) :
  Calls Tryz.prog 193 #[.string ⟨(pl (bl A)).toArray⟩,.string ⟨(pl (bl B)).toArray⟩,.pointer (some ⟨Hb,0,none⟩),.pointer (some ⟨Hb+1,0,none⟩),.pointer (some ⟨Hb+3,0,none⟩)] w fun e w'=>e=.returned (.tuple #[])/\Inv Hb v (st++[(pl (bl A),pl (bl B))].filter (keep (ss.map bl))) w'/\Below Hb w w':=by
 have h1:=pl_len (bl A)
 have h2:=pl_len (bl B)
 rw[bl_len] at h1 h2
 exact tell_any Hb v ss st ⟨(pl (bl A)).toArray⟩ ⟨(pl (bl B)).toArray⟩ w hi (hv.below (by rw[h0];exact hb)) (by rw[size_mk];omega) (by rw[size_mk];omega) hst hl
set_option maxRecDepth 100000 in
set_option maxHeartbeats 8000000 in
theorem each_any (Hb:Nat) (v:Value) (ss:List ByteArray) (s:ByteArray) (w0 w:World)(h0:w0.heap.size=Hb)(hi:Inv Hb v [] w)(hv:StrArg w0 v ss)(hb:Below Hb w0 w)(hs:s.size<=90000)(hl:ss.length<=100000) :
  Calls Tryz.prog 192 #[.string s,tellV Hb] w fun e w'=>e=.returned (.tuple #[])/\Inv Hb v (stay (ss.map bl) (bl s)) w'/\Below Hb w w':=by
 unfold tellV
 have HV:=hide hv
 have HB:=hide hb
 have HI:=hide hi
 clear hv hb hi
 go_enter Tryz.func192,Tryz.ntmps192
 go_wp2_with fail
 go_loopg [0,4] (s.size+1) (fun g v0 v4 wr=>∃ (S:ByteArray) (m:Bool) (st:List NV),v0=.string S/\v4=.bool m/\S.size<=s.size/\st.length+S.size<=s.size+1/\(m=true->S.size+1<=g/\st.length+S.size<=s.size)/\Hid (Inv Hb v st wr/\Below Hb w wr/\stay (ss.map bl) (bl s)=st++(if m=true then stay (ss.map bl) (bl S) else [])))
 case atStart=>exact⟨s,true,[],rfl,rfl,Nat.le_refl _,by simp,fun _=>⟨Nat.le_refl _,by simp⟩,hide ⟨HI.out,Below.refl _ _,rfl⟩⟩
 case round =>
  obtain⟨S,m,st,rfl,rfl,hS,hlen,hm,HR⟩:=hrel
  clear HI
  cases m with
  | false =>
   clear hm
   have HE:Hid (stay (ss.map bl) (bl s)=st):=hide (by have:=HR.out.2.2;simpa using this)
   go_wp2_with fail
   go_end0
   rw[HE.out]
   exact⟨rfl,HR.out.1,HR.out.2.1⟩
  | true =>
   obtain⟨hg,hlen2⟩:=hm rfl
   clear hm
   have HST:Hid (stay (ss.map bl) (bl s)=st++stay (ss.map bl) (bl S)):=hide (by have:=HR.out.2.2;simpa using this)
   by_cases hsemi:(59:UInt8)∈bl S
   ·obtain⟨A,B,hAB,hnA⟩:=split_ba S 59 hsemi
    have hsz:S.size=A.size+1+B.size:=by
     have:=congrArg List.length hAB
     rw[bl_len,List.length_append,List.length_cons,bl_len,bl_len] at this
     omega
    have cc:=fun w=>cut_some S 59 A B hAB hnA (by omega) w
    have HST2:Hid (stay (ss.map bl) (bl s)=st++((pp (bl A)).toList.filter (keep (ss.map bl))++stay (ss.map bl) (bl B))):=hide (by rw[HST.out,hAB,stay_semi _ _ _ hnA])
    have HSZ:=hide hsz
    clear hAB hnA hsemi HST hsz
    by_cases hcol:(58:UInt8)∈bl A
    ·obtain⟨N,V,hNV,hnN⟩:=split_ba A 58 hcol
     have hszA:A.size=N.size+1+V.size:=by
      have:=congrArg List.length hNV
      rw[bl_len,List.length_append,List.length_cons,bl_len,bl_len] at this
      omega
     have cd:=fun w=>cut_some A 58 N V hNV hnN (by have:=HSZ.out;omega) w
     have cn:=fun w=>plain_any N (by have:=HSZ.out;omega) w
     have cv:=fun w=>plain_any V (by have:=HSZ.out;omega) w
     have HST3:Hid (stay (ss.map bl) (bl s)=(st++[(pl (bl N),pl (bl V))].filter (keep (ss.map bl)))++stay (ss.map bl) (bl B)):=hide (by rw[HST2.out,hNV,pp_some _ _ hnN,List.append_assoc])
     have HT:Hid (∀ wx,Below wr.heap.size wr wx->Calls Tryz.prog 193 #[.string ⟨(pl (bl N)).toArray⟩,.string ⟨(pl (bl V)).toArray⟩,.pointer (some ⟨Hb,0,none⟩),.pointer (some ⟨Hb+1,0,none⟩),.pointer (some ⟨Hb+3,0,none⟩)] wx fun e w'=>e=.returned (.tuple #[])/\Hid (Inv Hb v (st++[(pl (bl N),pl (bl V))].filter (keep (ss.map bl))) w'/\Below Hb w w')):=hide (by
      intro wx hx
      have hwx:Below Hb w wx:=HR.out.2.1.trans (hx.mono (by have:=HR.out.1.lt;omega))
      refine (part_told Hb v ss st N V w0 wx h0 (HR.out.1.keep hx) HV.out (HB.out.trans hwx) (by have:=HSZ.out;omega) (by have:=HSZ.out;omega) (by omega) hl).mono ?_
      rintro e w' ⟨h1,h2,h3⟩
      exact⟨h1,hide ⟨h2,hwx.trans h3⟩⟩)
     have HLN:Hid ((st++[(pl (bl N),pl (bl V))].filter (keep (ss.map bl))).length+B.size<=s.size):=hide (by
      have h1:=filter_len (keep (ss.map bl)) (pl (bl N),pl (bl V))
      have h2:=HSZ.out
      rw[List.length_append]
      omega)
     have hBs:B.size+1<=gk - 1:=by have:=HSZ.out;omega
     have hBS:B.size<=s.size:=by have:=HSZ.out;omega
     clear hNV hnN hcol HST2 HR hszA HSZ
     generalize (⟨(pl (bl N)).toArray⟩:ByteArray)=PN at cn HT
     generalize (⟨(pl (bl V)).toArray⟩:ByteArray)=PV at cv HT
     go_wp2_with fail
     refine (cc _).mono ?_
     rintro e w1 ⟨rfl,hb1⟩
     go_wp2_with fail
     refine (cd _).mono ?_
     rintro e w2 ⟨rfl,hb2⟩
     go_wp2_with fail
     refine (cn _).mono ?_
     rintro e w3 ⟨rfl,hb3⟩
     go_wp2_with fail
     refine (cv _).mono ?_
     rintro e w4 ⟨rfl,hb4⟩
     have HT4:=hide (HT.out w4 (bel2 (bel2 (bel2 hb1 hb2) hb3) hb4))
     clear hb1 hb2 hb3 hb4 HT cc cd cn cv
     go_wp2_with fail
     refine HT4.out.mono ?_
     rintro e w5 ⟨rfl,HR5⟩
     clear HT4
     go_wp2_with fail
     go_roundg (gk - 1)
     case measure=>omega
     case rel=>exact⟨B,true,st++[(pl (bl N),pl (bl V))].filter (keep (ss.map bl)),rfl,rfl,hBS,by have:=HLN.out;omega,fun _=>⟨hBs,HLN.out⟩,hide ⟨HR5.out.1,HR5.out.2,by rw[if_pos rfl];exact HST3.out⟩⟩
    ·have cd:=fun w=>cut_none A 58 hcol w
     have HST3:Hid (stay (ss.map bl) (bl s)=st++stay (ss.map bl) (bl B)):=hide (by rw[HST2.out,pp_none _ hcol];rfl)
     have hBs:B.size+1<=gk - 1:=by have:=HSZ.out;omega
     have hBS:B.size<=s.size:=by have:=HSZ.out;omega
     have hLN:st.length+B.size<=s.size:=by have:=HSZ.out;omega
     clear hcol HST2 HSZ
     go_wp2_with fail
     refine (cc _).mono ?_
     rintro e w1 ⟨rfl,hb1⟩
     go_wp2_with fail
     refine (cd _).mono ?_
     rintro e w2 ⟨rfl,hb2⟩
     have HR2:=hide (And.intro (HR.out.1.keep (bel2 hb1 hb2)) (HR.out.2.1.trans ((bel2 hb1 hb2).mono (by have:=HR.out.1.lt;omega))))
     clear hb1 hb2 HR cc cd
     go_wp2_with fail
     go_roundg (gk - 1)
     case measure=>omega
     case rel=>exact⟨B,true,st,rfl,rfl,hBS,by omega,fun _=>⟨hBs,hLN⟩,hide ⟨HR2.out.1,HR2.out.2,by rw[if_pos rfl];exact HST3.out⟩⟩
   ·have cc:=fun w=>cut_none S 59 hsemi w
    have HST2:Hid (stay (ss.map bl) (bl s)=st++(pp (bl S)).toList.filter (keep (ss.map bl))):=hide (by rw[HST.out,stay_end _ _ hsemi])
    clear hsemi HST
    by_cases hcol:(58:UInt8)∈bl S
    ·obtain⟨N,V,hNV,hnN⟩:=split_ba S 58 hcol
     have hszA:S.size=N.size+1+V.size:=by
      have:=congrArg List.length hNV
      rw[bl_len,List.length_append,List.length_cons,bl_len,bl_len] at this
      omega
     have cd:=fun w=>cut_some S 58 N V hNV hnN (by omega) w
     have cn:=fun w=>plain_any N (by omega) w
     have cv:=fun w=>plain_any V (by omega) w
     have HST3:Hid (stay (ss.map bl) (bl s)=(st++[(pl (bl N),pl (bl V))].filter (keep (ss.map bl)))++[]):=hide (by rw[HST2.out,hNV,pp_some _ _ hnN,List.append_nil])
     have HT:Hid (∀ wx,Below wr.heap.size wr wx->Calls Tryz.prog 193 #[.string ⟨(pl (bl N)).toArray⟩,.string ⟨(pl (bl V)).toArray⟩,.pointer (some ⟨Hb,0,none⟩),.pointer (some ⟨Hb+1,0,none⟩),.pointer (some ⟨Hb+3,0,none⟩)] wx fun e w'=>e=.returned (.tuple #[])/\Hid (Inv Hb v (st++[(pl (bl N),pl (bl V))].filter (keep (ss.map bl))) w'/\Below Hb w w')):=hide (by
      intro wx hx
      have hwx:Below Hb w wx:=HR.out.2.1.trans (hx.mono (by have:=HR.out.1.lt;omega))
      refine (part_told Hb v ss st N V w0 wx h0 (HR.out.1.keep hx) HV.out (HB.out.trans hwx) (by omega) (by omega) (by omega) hl).mono ?_
      rintro e w' ⟨h1,h2,h3⟩
      exact⟨h1,hide ⟨h2,hwx.trans h3⟩⟩)
     have HLN:Hid ((st++[(pl (bl N),pl (bl V))].filter (keep (ss.map bl))).length<=s.size+1):=hide (by
      have h1:=filter_len (keep (ss.map bl)) (pl (bl N),pl (bl V))
      rw[List.length_append]
      omega)
     have hgp:1<=gk:=by omega
     clear hNV hnN hcol HST2 HR hszA
     generalize (⟨(pl (bl N)).toArray⟩:ByteArray)=PN at cn HT
     generalize (⟨(pl (bl V)).toArray⟩:ByteArray)=PV at cv HT
     go_wp2_with fail
     refine (cc _).mono ?_
     rintro e w1 ⟨rfl,hb1⟩
     go_wp2_with fail
     refine (cd _).mono ?_
     rintro e w2 ⟨rfl,hb2⟩
     go_wp2_with fail
     refine (cn _).mono ?_
     rintro e w3 ⟨rfl,hb3⟩
     go_wp2_with fail
     refine (cv _).mono ?_
     rintro e w4 ⟨rfl,hb4⟩
     have HT4:=hide (HT.out w4 (bel2 (bel2 (bel2 hb1 hb2) hb3) hb4))
     clear hb1 hb2 hb3 hb4 HT cc cd cn cv
     go_wp2_with fail
     refine HT4.out.mono ?_
     rintro e w5 ⟨rfl,HR5⟩
     clear HT4
     go_wp2_with fail
     go_roundg (gk - 1)
     case measure=>omega
     case rel=>exact⟨⟨#[]⟩,false,st++[(pl (bl N),pl (bl V))].filter (keep (ss.map bl)),rfl,rfl,Nat.zero_le _,(show _+0<=_ from HLN.out),(fun h=>by cases h),hide ⟨HR5.out.1,HR5.out.2,by rw[if_neg (by decide)];exact HST3.out⟩⟩
    ·have cd:=fun w=>cut_none S 58 hcol w
     have HST3:Hid (stay (ss.map bl) (bl s)=st++[]):=hide (by rw[HST2.out,pp_none _ hcol];rfl)
     have hgp:1<=gk:=by omega
     have hLN:st.length<=s.size+1:=by omega
     clear hcol HST2
     go_wp2_with fail
     refine (cc _).mono ?_
     rintro e w1 ⟨rfl,hb1⟩
     go_wp2_with fail
     refine (cd _).mono ?_
     rintro e w2 ⟨rfl,hb2⟩
     have HR2:=hide (And.intro (HR.out.1.keep (bel2 hb1 hb2)) (HR.out.2.1.trans ((bel2 hb1 hb2).mono (by have:=HR.out.1.lt;omega))))
     clear hb1 hb2 HR cc cd
     go_wp2_with fail
     go_roundg (gk - 1)
     case measure=>omega
     case rel=>exact⟨⟨#[]⟩,false,st,rfl,rfl,Nat.zero_le _,(show _+0<=_ from hLN),(fun h=>by cases h),hide ⟨HR2.out.1,HR2.out.2,by rw[if_neg (by decide)];exact HST3.out⟩⟩
end Go.Proofs.YtkiofbikkhhdfaaGreatDoor.Sy
namespace Go.Proofs.YtkiofbikkhhdfaaGreatDoor.Sy
open Go.RowKit Go.WideMaps
open Utf1 Sty
theorem bat_keep {T e:TypeId}{B b:Nat}{p:Value}{bs:List Value}{w w':World}(h:Lib.BuilderAtF T e B b p bs w)(hb:Below w.heap.size w w'):Lib.BuilderAtF T e B b p bs w':=by
 have hl:=h.lt
 obtain⟨h1,v,h2,h3,h4⟩:=h
 exact⟨h1,v,(hb.block b hl).trans h2,h3.kept (row:=none) (below_grown hb) (Classical.em _),h4⟩
def PB (w0 w:World) (acc:List UInt8):Prop:=Lib.IsBuilderF 59 5 w0.heap.size w0.heap.size (Lib.byteCells acc) w
theorem PB.keep {w0 w w':World}{acc:List UInt8}(h:PB w0 w acc)(hb:Below w.heap.size w w'):PB w0 w' acc :=
 h.elim (fun x=>.inl (bat_keep x hb)) (fun x=>.inr (bat_keep x hb))
theorem PB.lt {w0 w:World}{acc:List UInt8}(h:PB w0 w acc):w0.heap.size < w.heap.size:=h.elim (fun x=>x.lt) (fun x=>x.lt)
theorem ws_st (w0 w:World) (acc:List UInt8) (s:ByteArray)(hb:Below w0.heap.size w0 w)(hu:PB w0 w acc)(hl:acc.length+s.size<=1000000000) :
  Calls Tryz.prog 78 #[.pointer (some ⟨w0.heap.size,0,none⟩),.string s] w fun e w'=>e=.returned (.tuple #[.int .i64 s.size,.nilIface])/\Hid (PB w0 w' (acc++bl s)/\Below w0.heap.size w0 w'/\Lib.OthersKept 5 (some w0.heap.size) w w'):=by
 refine (Tryz.Builder_WriteString_k w0.heap.size w0.heap.size _ s w hu (by rw[Lib.byteCells_length];omega) hb.size).mono ?_
 rintro e w' ⟨rfl,h1,b1,k1⟩
 refine⟨rfl,hide ⟨.inr ?_,hb.trans b1,k1⟩⟩
 have e:Lib.byteCells (acc++bl s)=Lib.byteCells acc++Lib.strCells s:=by rw[Lib.byteCells_append];rfl
 rw[e]
 exact h1
theorem kept_cell {w w':World}{B b:Nat}{cs:Array Value}{t:TypeId}(hk:Lib.OthersKept 5 (some B) w w')(h:w.heap[b]?=some (.cells cs t (0,0)))(hb:b≠B)(ht:t≠5):w'.heap[b]?=some (.cells cs t (0,0)) :=
 hk _ _ h (by intro e;injection e with e;exact hb e) (by intro c fz e;injection e with _ e;exact ht e)
theorem inv_new (w:World) (v:Value) :
  Inv w.heap.size v [] ((((w.alloc (.cells #[v] 22)).alloc (.cells #[.slice none 0 0] 181)).alloc (.map #[] 0)).alloc (.cells #[.map (some (w.heap.size+1+1))] 129)) /\
  Below w.heap.size w ((((w.alloc (.cells #[v] 22)).alloc (.cells #[.slice none 0 0] 181)).alloc (.map #[] 0)).alloc (.cells #[.map (some (w.heap.size+1+1))] 129)):=by
 have s1:(w.alloc (.cells #[v] 22)).heap.size=w.heap.size+1:=by simp
 have s2:((w.alloc (.cells #[v] 22)).alloc (.cells #[.slice none 0 0] 181)).heap.size=w.heap.size+2:=by simp
 have s3:(((w.alloc (.cells #[v] 22)).alloc (.cells #[.slice none 0 0] 181)).alloc (.map #[] 0)).heap.size=w.heap.size+3:=by simp
 have k1:=new_block w #[v] 22
 have k2:=new_block (w.alloc (.cells #[v] 22)) #[.slice none 0 0] 181
 have k4:=new_block (((w.alloc (.cells #[v] 22)).alloc (.cells #[.slice none 0 0] 181)).alloc (.map #[] 0)) #[.map (some (w.heap.size+1+1))] 129
 have m3:=World.ownsMap_made (H:=Unit) ((w.alloc (.cells #[v] 22)).alloc (.cells #[.slice none 0 0] 181)) Tryz.prog 9 (plainElem Tryz.prog 3)
 rw[s1] at k2
 rw[s3] at k4
 rw[s2] at m3
 refine⟨⟨?_,⟨.slice none 0 0,?_,?_⟩,k4,.map [],m3.alloc _,Maps.isMap_empty,DOk.nil _⟩,?_⟩
 ·rw[Below.heap_alloc _ _ _ (by rw[s3];omega),Below.heap_alloc _ _ _ (by rw[s2];omega),Below.heap_alloc _ _ _ (by rw[s1];omega)]
  exact k1
 ·rw[Below.heap_alloc _ _ _ (by rw[s3];omega),Below.heap_alloc _ _ _ (by rw[s2];omega)]
  exact k2
 ·exact⟨rfl,.inl ⟨rfl,rfl⟩⟩
 ·exact ((((Below.refl _ w).alloc (Nat.le_refl _) _).alloc (by rw[s1];omega) _).alloc (by rw[s2];omega) _).alloc (by rw[s3];omega) _
theorem wt_len:∀ st:List NV,st.length<=wt st
 | []=>by simp
 | x :: r=>by
  have:=wt_len r
  unfold wt at this ⊢
  simp
  omega
def BX (w1:World) (b:Nat) (X1 X2:ByteArray) (acc:L) (w:World):Prop:=PB w1 w acc/\Below w1.heap.size w1 w/\w.heap[b]?=some (.cells #[.string X1,.string X2] 184 (0,0))
theorem ws_bx (w1 w:World) (b:Nat) (X1 X2:ByteArray) (acc:L) (s:ByteArray)(h:BX w1 b X1 X2 acc w)(hb:b≠w1.heap.size)(hl:acc.length+s.size<=1000000000) :
  Calls Tryz.prog 78 #[.pointer (some ⟨w1.heap.size,0,none⟩),.string s] w fun e w'=>e=.returned (.tuple #[.int .i64 s.size,.nilIface])/\BX w1 b X1 X2 (acc++bl s) w':=by
 refine (ws_st w1 w acc s h.2.1 h.1 hl).mono ?_
 rintro e w' ⟨h1,h2⟩
 exact⟨h1,h2.out.1,h2.out.2.1,kept_cell h2.out.2.2 h.2.2 hb (by decide)⟩
theorem len_bx (w1 w:World) (acc:L)(h:PB w1 w acc) :
  Calls Tryz.prog 95 #[.pointer (some ⟨w1.heap.size,0,none⟩)] w fun e w'=>e=.returned (.int .i64 (acc.length:Int))/\w'=w:=by
 have:=Tryz.Builder_Len_f w1.heap.size w1.heap.size (Lib.byteCells acc) w h
 rw[Lib.byteCells_length] at this
 exact this
theorem last_of {D:DataW Unit}{st:List NV}(h:DOk D st) {i:Nat}{x:NV}(hx:st[i]?=some x) {c:Int}(hc:D.atKey (.string x.1) (.lit (.int .i64 0))=.lit (.int .i64 c)):(c=(i:Int)/\isLast st i)\/(c≠(i:Int)/\¬ isLast st i):=by
 obtain⟨j,h1,h2,y,h3,h4⟩:=h i x hx
 rw[h1] at hc
 have hcj:c=(j:Int):=by
  injection hc with e
  injection e with _ e
  exact e.symm
 by_cases e:j=i
 ·left
  refine⟨by rw[hcj,e],?_⟩
  intro k a b hk ha hb hab
  rw[hx] at hb
  cases hb
  obtain⟨j2,g1,g2,_⟩:=h k a ha
  rw[hab,h1] at g1
  have:j2=j:=by
   injection g1 with e'
   injection e' with _ e'
   omega
  omega
 ·right
  refine⟨by rw[hcj];omega,?_⟩
  intro hl
  exact hl j y x (by omega) h3 hx h4
set_option maxRecDepth 100000 in
set_option maxHeartbeats 16000000 in
theorem filter_any (s:ByteArray) (v:Value) (ss:List ByteArray)(hs:s.size<=90000)(hl:ss.length<=100000) (w:World)(hv:StrArg w v ss) :
  Calls Tryz.prog 168 #[.string s,v] w fun e w'=>e=.returned (.string ⟨(filt (ss.map bl) (bl s)).toArray⟩)/\Below w.heap.size w w':=by
 have hmm:=@run_makeMap Tryz.prog
 have hmf:∀ (fn:Fn) (first cap:Array Value) (w:World),(Instr.makeFunc fn first cap).run Tryz.prog w=.ok (.func fn first cap) w:=fun _ _ _ _=>rfl
 have hz3:∀ w:World,(zeroValue 3).run Tryz.prog w=.ok (.int .i64 0) w:=fun w=>by kernel_rfl
 obtain⟨st,hst⟩:∃ st,st=stay (ss.map bl) (bl s):=⟨_,rfl⟩
 obtain⟨n,hn⟩:∃ n,n=st.length:=⟨_,rfl⟩
 have HN:=hide hn
 have HOUT:Hid (filt (ss.map bl) (bl s)=outTo st n):=hide (by rw[hn,outTo_all,hst];rfl)
 have HWT:Hid (wt st<=300000):=hide (by
  have h1:=wt_filter (keep (ss.map bl)) (prts (bl s))
  have h2:=prts_wt (bl s)
  rw[bl_len] at h2
  rw[hst]
  unfold stay
  omega)
 have hwl:n<=300000:=by
  have h1:=HWT.out
  have h2:=wt_len st
  omega
 have HC:Hid (∀ p cap,v=.slice p ss.length cap->Calls Tryz.prog 192 #[.string s,tellV w.heap.size] ((((w.alloc (.cells #[.slice p ss.length cap] 22)).alloc (.cells #[.slice none 0 0] 181)).alloc (.map #[] 0)).alloc (.cells #[.map (some (w.heap.size+1+1))] 129)) fun e w'=>e=.returned (.tuple #[])/\Hid (Inv w.heap.size v st w'/\Below w.heap.size w w')):=hide (by
  intro p cap e
  obtain⟨h1,h2⟩:=inv_new w v
  rw[<-e]
  refine (each_any w.heap.size v ss s w _ rfl h1 hv h2 hs hl).mono ?_
  rintro e w' ⟨h3,h4,h5⟩
  exact⟨h3,hide ⟨by rw[hst];exact h4,h2.trans h5⟩⟩)
 rw[HOUT.out]
 obtain⟨p,cap,rfl,-,-⟩:=hv
 have HC:=hide (HC.out p cap rfl)
 clear hst HOUT hn
 go_enter Tryz.func168,Tryz.ntmps168
 go_wp2_with fail
 refine HC.out.mono ?_
 rintro e w1 ⟨rfl,HI⟩
 clear HC hmm hmf
 have hb1:Below w1.heap.size w1 (w1.alloc (.cells #[.pointer none,.slice none 0 0] 59)):=(Below.refl _ _).alloc (Nat.le_refl _) _
 have HB1:=hide hb1
 have HU1:Hid (PB w1 (w1.alloc (.cells #[.pointer none,.slice none 0 0] 59)) []):=hide (Lib.IsBuilderF.of (Lib.fresh_isBuilder 59 5 w1))
 obtain⟨u,hsb,hown⟩:=HI.out.1.sb
 obtain⟨sp,sc,rfl⟩:∃ sp sc,u=.slice sp n sc:=by
  rcases hown.2 with⟨rfl,h0⟩ | ⟨g,cap,cur,rfl,_⟩
  ·exact⟨none,0,by rw[HN.out,h0]⟩
  ·exact⟨_,_,by rw[HN.out]⟩
 have cS:=cell_keep (cell_of_one hsb) hb1
 have HOW:=hide hown
 clear hsb hown hb1
 go_wp2_with fail
 clear cS
 go_loopg [16] n (fun g v16 wr=>∃ i:Nat,i+g=n/\v16=.int .i64 (i:Int)/\Hid (PB w1 wr (outTo st i)/\Below w1.heap.size w1 wr))
 case atStart=>exact⟨0,by omega,rfl,hide ⟨HU1.out,HB1.out⟩⟩
 case round =>
  obtain⟨i,hi,rfl,HR⟩:=hrel
  clear HU1 HB1
  by_cases hlt:i < n
  ·obtain⟨x,hx⟩:∃ x,st[i]?=some x:=⟨_,List.getElem?_eq_getElem (by rw[<-HN.out];exact hlt)⟩
   obtain⟨g,rfl⟩:∃ g,sp=some ⟨g,0,none⟩:=by
    rcases HOW.out.2 with⟨e,h0⟩ | ⟨g,cap,cur,e,_⟩
    ·have:=HN.out;omega
    ·injection e with e;exact⟨g,e⟩
   obtain⟨r0,r1⟩:=rowV_at st i x hx
   have hos:=HOW.out
   rw[<-HN.out] at hos
   have x0:=hos.cellAt (2*i) (by omega)
   have x1:=hos.cellAt (2*i+1) (by omega)
   rw[r0] at x0
   rw[r1] at x1
   have x0:=cell_keep x0 HR.out.2
   have x1:=cell_keep x1 HR.out.2
   rw[show 2*i=i*2 by omega] at x0 x1
   have hwi:(outTo st i).length+(x.1.length+x.2.length+4)<=300000:=by
    have h1:=outTo_len st i
    have h2:=wt_take st (i+1)
    have hw:wt (st.take (i+1))=wt (st.take i)+(x.1.length+x.2.length+4):=by
     rw[List.take_add_one,hx]
     unfold wt
     simp
    have h3:=HWT.out
    omega
   obtain⟨w2,hw2⟩:∃ w2,w2=wr.alloc (.cells #[.string ⟨x.1.toArray⟩,.string ⟨x.2.toArray⟩] 184):=⟨_,rfl⟩
   have hb2:Below wr.heap.size wr w2:=by rw[hw2];exact (Below.refl _ _).alloc (Nat.le_refl _) _
   have hb12:Below w1.heap.size w1 w2:=HR.out.2.trans (hb2.mono HR.out.2.size)
   have hbx:w2.heap[wr.heap.size]?=some (.cells #[.string ⟨x.1.toArray⟩,.string ⟨x.2.toArray⟩] 184 (0,0)):=by rw[hw2];exact new_block _ _ _
   have hlt1:=HR.out.1.lt
   have hI2:=HI.out.1.keep hb12
   have cM:=cell_of_one hI2.mb
   obtain⟨D,hmap,-,hok⟩:=hI2.mp
   obtain⟨c,hlk,hat,wc⟩:=hmap.lookup_int (Maps.string_keyed Tryz.underlying9) Tryz.underlying129 Tryz.underlying3 (hz3 _) (keyOf_string_mk (P:=Tryz.prog) Tryz.underlying9 (s:=⟨x.1.toArray⟩) (by rw[size_mk];unfold maxLen;omega))
   have HLS:=hide (last_of hok hx hat)
   have HX:Hid (BX w1 wr.heap.size ⟨x.1.toArray⟩ ⟨x.2.toArray⟩ (outTo st i) w2):=hide ⟨HR.out.1.keep hb2,hb12,hbx⟩
   have HSZ:Hid ((⟨x.1.toArray⟩:ByteArray).size=x.1.length/\(⟨x.2.toArray⟩:ByteArray).size=x.2.length):=hide ⟨size_mk _,size_mk _⟩
   have HBL:Hid (bl ⟨x.1.toArray⟩=x.1/\bl ⟨x.2.toArray⟩=x.2):=hide ⟨rfl,rfl⟩
   have y0:=tag_cell hbx 0 _ rfl
   have HLE:=hide (outTo_last st i x · hx)
   have HLK:=hide (outTo_skip st i)
   have HWI:=hide hwi
   generalize (⟨x.1.toArray⟩:ByteArray)=X1 at *
   generalize (⟨x.2.toArray⟩:ByteArray)=X2 at *
   have HHX:=hide hx
   clear hx r0 r1 hos hb2 hb12 hbx hI2 hmap hok hat wc hwi HR
   go_upto_region 8 with fail
   rw[<-hw2]
   clear hw2 x0 x1
   rcases HLS.out with⟨hc,hlast⟩ | ⟨hc,hlast⟩
   ·subst hc
    have HEM:=hide (HLE.out hlast)
    clear HLS HLE HLK hlast
    have hne:(((i:Int)) != (i:Int))=false:=by simp
    obtain⟨acc,hacc⟩:∃ acc,acc=outTo st i:=⟨_,rfl⟩
    rw[<-hacc] at HX HEM HWI
    clear hacc
    have cl:=fun w h=>len_bx w1 w acc h
    have HCL:=hide cl
    clear cl
    by_cases ha:acc=[]
    ·subst ha
     have HE2:Hid (outTo st (i+1)=[]++bl X1++bl ⟨#[58,32]⟩++bl X2):=hide (by rw[HEM.out,HBL.out.1,HBL.out.2];rfl)
     have CL:=hide (HCL.out w2 HX.out.1)
     have C1:=hide (ws_bx w1 w2 wr.heap.size X1 X2 [] X1 HX.out (by omega) (by have h1:=HWI.out;have h2:=HSZ.out;simp;omega))
     clear HCL HEM
     go_wp2_with fail
     refine CL.out.mono ?_
     rintro e w3 ⟨rfl,rfl⟩
     clear CL
     go_wp2_with fail
     refine C1.out.mono ?_
     rintro e w4 ⟨rfl,h4⟩
     have C2:=hide (ws_bx w1 w4 wr.heap.size X1 X2 _ ⟨#[58,32]⟩ h4 (by omega) (by have h1:=HWI.out;have h2:=HSZ.out;simp only[List.length_append,bl_len];show _+2<=_;simp;omega))
     clear C1 HX y0 h4
     go_wp2_with fail
     refine C2.out.mono ?_
     rintro e w5 ⟨rfl,h5⟩
     have y1:=tag_cell h5.2.2 1 _ rfl
     have C3:=hide (ws_bx w1 w5 wr.heap.size X1 X2 _ X2 h5 (by omega) (by have h1:=HWI.out;have h2:=HSZ.out;simp only[List.length_append,bl_len];show _+2+_<=_;simp;omega))
     clear C2 h5
     go_wp2_with fail
     refine C3.out.mono ?_
     rintro e w6 ⟨rfl,h6⟩
     have HR2:Hid (PB w1 w6 (outTo st (i+1))/\Below w1.heap.size w1 w6):=hide ⟨by rw[HE2.out];exact h6.1,h6.2.1⟩
     clear C3 h6 y1
     go_wp2_with fail
     go_roundg (gk - 1)
     case measure=>omega
     case rel=>exact⟨i+1,by omega,by first | rfl | simp,HR2⟩
    ·have HE2:Hid (outTo st (i+1)=acc++bl ⟨#[59,32]⟩++bl X1++bl ⟨#[58,32]⟩++bl X2):=hide (by rw[HEM.out,HBL.out.1,HBL.out.2];unfold emit;rw[if_neg ha])
     have CL:=hide (HCL.out w2 HX.out.1)
     have C0:=hide (ws_bx w1 w2 wr.heap.size X1 X2 acc ⟨#[59,32]⟩ HX.out (by omega) (by have h1:=HWI.out;show _+2<=_;omega))
     have hpos:0 < acc.length:=List.length_pos_iff.2 ha
     generalize hal:acc.length=al at *
     have hgt:decide ((0:Int) < (al:Int))=true:=decide_eq_true (by omega)
     have HAL:=hide hal
     clear HCL HEM ha hal
     go_wp2_with fail
     refine CL.out.mono ?_
     rintro e w3 ⟨rfl,rfl⟩
     clear CL y0
     go_wp2_with fail
     refine C0.out.mono ?_
     rintro e w4 ⟨rfl,h4⟩
     have y0:=tag_cell h4.2.2 0 _ rfl
     have C1:=hide (ws_bx w1 w4 wr.heap.size X1 X2 _ X1 h4 (by omega) (by have h1:=HWI.out;have h2:=HSZ.out;rw[List.length_append,bl_len,HAL.out];show _+2+_<=_;omega))
     clear C0 HX h4
     go_wp2_with fail
     refine C1.out.mono ?_
     rintro e w5 ⟨rfl,h5⟩
     have C2:=hide (ws_bx w1 w5 wr.heap.size X1 X2 _ ⟨#[58,32]⟩ h5 (by omega) (by have h1:=HWI.out;have h2:=HSZ.out;rw[List.length_append,List.length_append,bl_len,bl_len,HAL.out];show _+2+_+2<=_;omega))
     clear C1 h5 y0
     go_wp2_with fail
     refine C2.out.mono ?_
     rintro e w6 ⟨rfl,h6⟩
     have y1:=tag_cell h6.2.2 1 _ rfl
     have C3:=hide (ws_bx w1 w6 wr.heap.size X1 X2 _ X2 h6 (by omega) (by have h1:=HWI.out;have h2:=HSZ.out;rw[List.length_append,List.length_append,List.length_append,bl_len,bl_len,bl_len,HAL.out];show _+2+_+2+_<=_;omega))
     clear C2 h6
     go_wp2_with fail
     refine C3.out.mono ?_
     rintro e w7 ⟨rfl,h7⟩
     have HR2:Hid (PB w1 w7 (outTo st (i+1))/\Below w1.heap.size w1 w7):=hide ⟨by rw[HE2.out];exact h7.1,h7.2.1⟩
     clear C3 h7 y1
     go_wp2_with fail
     go_roundg (gk - 1)
     case measure=>omega
     case rel=>exact⟨i+1,by omega,by first | rfl | simp,HR2⟩
   ·have hne:(c != (i:Int))=true:=by simpa using hc
    have HR2:Hid (PB w1 w2 (outTo st (i+1))/\Below w1.heap.size w1 w2):=hide ⟨by rw[HLK.out hlast];exact HX.out.1,HX.out.2.1⟩
    clear HLS HLE HLK hlast hc HX
    go_wp2_with fail
    go_roundg (gk - 1)
    case measure=>omega
    case rel=>exact⟨i+1,by omega,by first | rfl | simp,HR2⟩
  ·have hin:i=n:=by omega
   subst hin
   have HS:=hide (Tryz.Builder_String_any_k w1.heap.size w1.heap.size (outTo st i) wr HR.out.1 HR.out.2.size)
   go_wp2_with fail
   refine HS.out.mono ?_
   rintro e w3 ⟨rfl,_,m2,_⟩
   have HB3:=hide (HI.out.2.trans ((HR.out.2.trans m2).mono HI.out.2.size))
   clear m2 HS HR
   go_wp2_with fail
   go_ret
   exact⟨rfl,HB3.out⟩
end Go.Proofs.YtkiofbikkhhdfaaGreatDoor.Sy

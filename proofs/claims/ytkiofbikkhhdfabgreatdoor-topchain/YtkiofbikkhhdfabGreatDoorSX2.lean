import Derived.Test.YtkiofbikkhhdfabGreatDoorK18
import Derived.Test.YtkiofbikkhhdfabGreatDoorN2
import Derived.Maps.OwnSet
set_option maxRecDepth 100000
set_option maxHeartbeats 16000000
namespace San
open Utf1 Pol8 Saf
theorem joinB_snoc:∀ (l:List L) (x:L),joinB (l++[x])=if l=[] then x else joinB l++32 :: x
 | [],x=>rfl
 | [y],x=>rfl
 | y :: z :: r,x=>by
  have h:=joinB_snoc (z :: r) x
  rw[if_neg (by simp)] at h ⊢
  rw[List.cons_append,List.cons_append,joinB,joinB,<-List.cons_append,h,List.append_assoc]
  rfl
end San
namespace Go.Proofs.YtkiofbikkhhdfabGreatDoor
open Go.RowKit Go.WideMaps
open Utf1 Pol8
structure MC (D:DataW Unit) (seen:List L) (n:Nat):Prop where
 t:Maps.Tidy D
 h:∀ x:L,Maps.has D (.string x)=decide (x∈seen)
 c:∀ x:L,∃ c:Nat,c<=n/\D.atKey (.string x) (.lit (.int .i64 0))=.lit (.int .i64 (c:Int))/\(x∈seen ↔ 0 < c)
 s:Maps.size D=seen.length
theorem MC.nil:MC (.map []) [] 0:=⟨Maps.tidy_empty,fun _=>rfl,fun _=>⟨0,Nat.le_refl _,rfl,by simp⟩,rfl⟩
theorem MC.put {D:DataW Unit}{seen:List L}{n:Nat}(h:MC D seen n) (x:L) {c:Nat}(hc:c<=n) (seen':List L)(hs:seen'=if x∈seen then seen else seen++[x]):MC (D.put (.string x) (.lit (.int .i64 ((c:Int)+1)))) seen' (n+1):=by
 have hk:WideAt.IsKeyLit (.string x):=by simp[WideAt.IsKeyLit]
 have hm:∀ y,y∈seen' ↔ y=x\/y∈seen:=by
  intro y
  rw[hs]
  split
  ·rename_i hx
   exact⟨.inr,fun e=>e.elim (fun e=>e ▸ hx) id⟩
  ·rw[List.mem_append,List.mem_singleton,or_comm]
 refine⟨h.t.put hk _,fun y=>?_,fun y=>?_,?_⟩
 ·by_cases e:y=x
  ·subst e
   rw[Maps.has_put_same h.t.isMap hk,decide_eq_true ((hm y).2 (.inl rfl))]
  ·rw[Maps.has_put_other (fun e'=>e (by injection e')),h.h y]
   congr 1
   rw[hm y]
   simp[e]
 ·by_cases e:y=x
  ·subst e
   exact⟨c+1,by omega,by rw[Maps.atKey_put_same h.t.isMap hk];rfl,⟨fun _=>by omega,fun _=>(hm y).2 (.inl rfl)⟩⟩
  ·obtain⟨d,h1,h2,h3⟩:=h.c y
   exact⟨d,by omega,by rw[Maps.atKey_put_other (fun e'=>e (by injection e'))];exact h2,by rw[hm y,<-h3];simp[e]⟩
 ·rw[Maps.size_put h.t,h.h x,h.s,hs]
  by_cases hx:x∈seen
  ·rw[if_pos (decide_eq_true hx),if_pos hx]
  ·rw[if_neg (by rw[decide_eq_false hx];decide),if_neg hx,List.length_append]
   rfl
theorem pb_map {w0 w w':World}{acc:L}{mb n:Nat}{D:DataW Unit}(h:Dm.PB w0 w acc)(hm:w.ownsMap Tryz.prog 9 (plainElem Tryz.prog 3) mb n D)(hg:w.grownBy w' (some mb)):Dm.PB w0 w' acc:=by
 obtain⟨es,clock,hb,-⟩:=hm
 have key:∀ {p:Value},Lib.BuilderAtF 71 5 w0.heap.size w0.heap.size p (Lib.byteCells acc) w->Lib.BuilderAtF 71 5 w0.heap.size w0.heap.size p (Lib.byteCells acc) w':=by
  intro p x
  have hl:=x.lt
  obtain⟨h1,v,h2,h3,h4⟩:=x
  refine⟨h1,v,?_,h3.kept (row:=some mb) hg (.inr ?_),h4⟩
  ·rw[hg.block _ hl (fun e=>by injection e with e;subst e;rw[hb] at h2;cases h2)]
   exact h2
  ·intro e
   obtain⟨-,⟨rfl,-⟩ | ⟨g,cap,cur,fz,rfl,-,hg2,-⟩⟩:=h3
   ·cases e
   ·have:g=mb:=by simpa [Value.ownBlock] using e
    subst this
    rw[hb] at hg2
    cases hg2
 exact h.elim (fun x=>.inl (key x)) (fun x=>.inr (key x))
theorem map_other {w w':World}{B mb n:Nat}{D:DataW Unit}(hm:w.ownsMap Tryz.prog 9 (plainElem Tryz.prog 3) mb n D)(hk:Lib.OthersKept 5 (some B) w w')(hne:mb≠B):w'.ownsMap Tryz.prog 9 (plainElem Tryz.prog 3) mb n D:=by
 obtain⟨es,clock,hb,h⟩:=hm
 exact⟨es,clock,hk _ _ hb (fun e=>by injection e with e;exact hne e) (fun c fz e=>by cases e),h⟩
structure ClsI (w:World) (cl R:List L) (V:L) (more:Bool) (n:Nat) (seen:List L) (wx:World):Prop where
 b:Below w.heap.size w wx
 p:Dm.PB w wx (San.joinB seen)
 m:∃ D:DataW Unit,wx.ownsMap Tryz.prog 9 (plainElem Tryz.prog 3) (w.heap.size+1) n D/\MC D seen n
 on:more=true->R=(Pol8.segs 32 V).foldl (San.clsStep cl) seen
 off:more=false->R=seen
 z:(San.joinB seen).length<=100000
 y:more=true->(San.joinB seen).length+V.length<=90000
theorem cls_in {cl seen:List L}{x:L}(h1:x∈cl)(h2:x ∉ seen):San.clsStep cl seen x=seen++[x]:=if_pos ⟨h1,h2⟩
theorem cls_out {cl seen:List L}{x:L}(h:¬ (x∈cl/\x ∉ seen)):San.clsStep cl seen x=seen:=if_neg h
theorem pclassesOf_any (s:ByteArray) (v:Value) (cs:List ByteArray)(hs:s.size<=90000)(hl:cs.length<=100000) (w:World)(hv:StrArg w v cs) :
  Calls Tryz.prog 157 #[.string s,v] w fun e w'=>e=.returned (.tuple #[.string ⟨(San.clsO (cs.map bl) (bl s)).toArray⟩,.bool (decide (San.clsK (cs.map bl) (bl s)≠[]))])/\Below w.heap.size w w':=by
 obtain⟨R,hR⟩:∃ R,R=San.clsK (cs.map bl) (bl s):=⟨_,rfl⟩
 unfold San.clsO
 rw[<-hR]
 unfold San.clsK at hR
 have hmm:=@run_makeMap Tryz.prog
 have HZ3:Hid (∀ w:World,(zeroValue 3).run Tryz.prog w=.ok (.int .i64 0) w):=hide (fun w=>by kernel_rfl)
 have HC:Hid (∀ (X:ByteArray) wx,Below w.heap.size w wx->Calls Tryz.prog 71 #[v,.string X] wx fun e w'=>e=.returned (.bool (decide (bl X∈cs.map bl)))/\w'=wx):=hide (fun X wx h=>Sy.contains_any X v cs hl wx (hv.below h))
 have H0:Hid (ClsI w (cs.map bl) R (bl s) true 0 [] ((w.alloc (.cells #[.pointer none,.slice none 0 0] 71)).alloc (.map #[] 0))):=hide (by
  have hb1:Below w.heap.size w (w.alloc (.cells #[.pointer none,.slice none 0 0] 71)):=bel_alloc (Below.refl _ _) _
  have hp:Dm.PB w (w.alloc (.cells #[.pointer none,.slice none 0 0] 71)) []:=Lib.IsBuilderF.of (Lib.fresh_isBuilder 71 5 w)
  have hm:=World.ownsMap_made (H:=Unit) (w.alloc (.cells #[.pointer none,.slice none 0 0] 71)) Tryz.prog 9 (plainElem Tryz.prog 3)
  have e:(w.alloc (.cells #[.pointer none,.slice none 0 0] 71)).heap.size=w.heap.size+1:=by simp
  rw[e] at hm
  exact⟨bel_alloc hb1 _,hp.keep (bel_alloc (Below.refl _ _) _),⟨_,hm,MC.nil⟩,fun _=>hR,(fun h=>by cases h),by simp[San.joinB],fun _=>by rw[bl_len];simpa [San.joinB] using hs⟩)
 obtain⟨p,cap,rfl,-,-⟩:=hv
 generalize cs.length=NL at *
 clear hR hl
 go_enter Tryz.func157,Tryz.ntmps157
 go_wp2_with fail
 clear hmm
 go_loopg [0,8] (s.size+1) (fun g v0 v8 wx=>∃ (V:ByteArray) (more:Bool) (n:Nat) (seen:List L),v0=.string V/\v8=.bool more/\n+g<=s.size+1/\V.size<=90000/\(more=true->V.size+1<=g)/\Hid (ClsI w (cs.map bl) R (bl V) more n seen wx))
 case atStart=>exact⟨s,true,0,[],rfl,rfl,by omega,hs,fun _=>by omega,H0⟩
 case round =>
  obtain⟨V,more,n,seen,rfl,rfl,hn,hV,hg,HU⟩:=hrel
  clear H0
  cases more with
  | false =>
   have HR:Hid (R=seen):=hide (HU.out.off rfl)
   have HB:=hide HU.out.b
   obtain⟨D,hm,hc⟩:=HU.out.m
   have HM:=hide hm
   have HSL:Hid (Maps.size D=seen.length):=hide hc.s
   have HS:=hide (Tryz.Builder_String_any_k w.heap.size w.heap.size (San.joinB seen) wr HU.out.p HU.out.b.size)
   clear HU hg hm hc
   go_wp2_with fail
   refine HS.out.mono ?_
   rintro e w1 ⟨rfl,-,b1,k1⟩
   have hlen:=(map_other HM.out k1 (by omega)).len Tryz.underlying118 3
   rw[HSL.out] at hlen
   have HB1:=hide (HB.out.trans b1)
   clear HS b1 k1 HM HSL HB
   by_cases h0:seen=[]
   ·subst h0
    go_wp2_with fail
    go_ret2
    rw[HR.out]
    exact⟨rfl,HB1.out⟩
   ·have h1:0 < seen.length:=List.length_pos_iff.2 h0
    go_wp2_with fail
    go_ret2
    rw[HR.out,decide_eq_true h0]
    exact⟨rfl,HB1.out⟩
  | true =>
   have hg:=hg rfl
   obtain⟨A,B,f,hcut,hA,hBs,hf1,hf0⟩:=cut_seg V (by omega)
   have HF1:=hide hf1
   have HF0:=hide hf0
   have HON:Hid (R=(Pol8.segs 32 (bl V)).foldl (San.clsStep (cs.map bl)) seen):=hide (HU.out.on rfl)
   have HST:Hid (∀ seen',San.clsStep (cs.map bl) seen (bl A)=seen'->(f=true->R=(Pol8.segs 32 (bl B)).foldl (San.clsStep (cs.map bl)) seen')/\(f=false->R=seen')):=hide (fun seen' h=>⟨fun e=>by rw[HON.out,(HF1.out e).2,List.foldl_cons,h],fun e=>by rw[HON.out,HF0.out e,List.foldl_cons,h];rfl⟩)
   have hy:=HU.out.y rfl
   rw[bl_len] at hy
   have HSZ:Hid ((f=true->B.size+1<=gk - 1)/\B.size<=90000/\(San.joinB seen).length+V.size<=90000/\A.size<=V.size/\(f=true->A.size+1+B.size=V.size)):=hide ⟨fun h=>by have:=(HF1.out h).1;omega,by omega,hy,hA,fun h=>(HF1.out h).1⟩
   have CC:=hide (hcut wr)
   clear hcut hf1 hf0 hy
   go_wp2_with fail
   refine CC.out.mono ?_
   rintro e w1 ⟨rfl,h1⟩
   clear CC
   obtain⟨D,hmap,hmc⟩:=HU.out.m
   have hmap:=hmap.kept (below_grown h1) (by simp)
   have HP:=hide (HU.out.p.keep h1)
   have HB:=hide (bel2 HU.out.b h1)
   have HMC:=hide hmc
   have HMAP:=hide hmap
   have CA:=hide (HC.out A w1 HB.out)
   clear h1 HU HON HF1 HF0
   by_cases hcl:bl A∈cs.map bl
   ·rw[decide_eq_true hcl] at CA
    have hkey:keyOf Tryz.prog 9 (.string A)=some (.string (bl A)):=keyOf_string_mk Tryz.underlying9 (by unfold maxLen;omega)
    obtain⟨c,hlk,hat,-⟩:=hmap.lookup_int (Maps.string_keyed Tryz.underlying9) Tryz.underlying118 Tryz.underlying3 (HZ3.out _) hkey
    obtain⟨c0,hc0,hat0,hin0⟩:=hmc.c (bl A)
    rw[hat0] at hat
    have hc:=lit_int hat
    subst hc
    have HIN:=hide hin0
    have hwrap:IntKind.i64.wrap ((c0:Int)+1)=(c0:Int)+1:=IntWalk.i64_in _ (by omega)
    have HPUT:=hide (fun seen' hs'=>HMC.out.put (bl A) hc0 seen' hs')
    have hcn:c0<=100000:=by omega
    have HTD:=hide hmc.t
    clear hmap hmc hat hat0 hin0 HMC
    go_wp2_with fail
    refine CA.out.mono ?_
    rintro e w2 ⟨rfl,rfl⟩
    clear CA
    go_wp2_with (at_mapUpdate;refine wpList_mapUpdate_own _ rfl _ _ _ 118 rfl 9 3 (Maps.string_keyed Tryz.underlying9) Tryz.underlying118 _ (w.heap.size+1) n _ rfl HMAP.out (by unfold maxLen;omega) _ _ _ rfl rfl hkey _ [] (plainElem_int Tryz.underlying3 (WalkArith.wf_i64 (by omega))) ?_)
    intro w3 hmap1 hg1
    have HP3:=hide (pb_map HP.out HMAP.out hg1)
    have HB3:Hid (Below w.heap.size w w3):=hide (HB.out.grown hg1 HB.out.size (fun j hj=>by injection hj with hj;omega))
    obtain⟨c2,hlk2,hat2,-⟩:=hmap1.lookup_int (Maps.string_keyed Tryz.underlying9) Tryz.underlying118 Tryz.underlying3 (HZ3.out _) hkey
    rw[Maps.atKey_put_same HTD.out.isMap (by simp[WideAt.IsKeyLit]) _ _] at hat2
    have hc2:=lit_int hat2
    subst hc2
    have HM3:=hide hmap1
    clear hmap1 hg1 hat2 hlk hkey HMAP HB HP
    by_cases hin:bl A∈seen
    ·have hpos:0 < c0:=HIN.out.1 hin
     have HE:=hide (HST.out seen (cls_out (fun h=>h.2 hin)))
     have HNX:Hid (ClsI w (cs.map bl) R (bl B) f (n+1) seen w3):=hide ⟨HB3.out,HP3.out,⟨_,HM3.out,HPUT.out seen (if_pos hin).symm⟩,HE.out.1,HE.out.2,by have:=HSZ.out;omega,fun h=>by have:=HSZ.out.2.2.2.2 h;have:=HSZ.out;rw[bl_len];omega⟩
     have hgt:(1:Int) < (c0:Int)+1:=by omega
     clear HE HST hcl hin HIN HPUT HB3 HP3 HM3
     go_wp2_with fail
     go_roundg (gk - 1)
     case measure=>omega
     case rel=>exact⟨B,f,n+1,seen,rfl,rfl,by omega,HSZ.out.2.1,HSZ.out.1,HNX⟩
    ·have hc00:c0=0:=by
      have h:¬ 0 < c0:=fun h=>hin (HIN.out.2 h)
      omega
     subst hc00
     have HPUT3:=hide (HPUT.out (seen++[bl A]) (if_neg hin).symm)
     have hlen:=HM3.out.len Tryz.underlying118 3
     rw[HPUT3.out.s,List.length_append] at hlen
     have HE:=hide (HST.out (seen++[bl A]) (cls_in hcl hin))
     have HFIN:Hid (∀ wy,Below w.heap.size w wy->Dm.PB w wy (San.joinB (seen++[bl A]))->wy.ownsMap Tryz.prog 9 (plainElem Tryz.prog 3) (w.heap.size+1) (n+1) _->ClsI w (cs.map bl) R (bl B) f (n+1) (seen++[bl A]) wy):=hide (fun wy h1 h2 h3=>by
      have hj:(San.joinB (seen++[bl A])).length<=(San.joinB seen).length+1+A.size:=by
       rw[San.joinB_snoc]
       split
       ·rw[bl_len];omega
       ·rw[List.length_append,List.length_cons,bl_len];omega
      exact⟨h1,h2,⟨_,h3,HPUT3.out⟩,HE.out.1,HE.out.2,by have:=HSZ.out;omega,fun h=>by have:=HSZ.out.2.2.2.2 h;have:=HSZ.out;rw[bl_len];omega⟩)
     clear HST hcl hin HIN HPUT HE
     by_cases h0:seen=[]
     ·subst h0
      have HW:=hide (Dm.ws_st w w3 [] A HB3.out HP3.out (by have:=HSZ.out;simp;omega))
      go_wp2_with fail
      refine HW.out.mono ?_
      rintro e w4 ⟨rfl,p4,b4,k4⟩
      have HNX:=hide (HFIN.out w4 (HB3.out.trans b4) p4 (map_other HM3.out k4 (by omega)))
      clear HW p4 b4 k4 HFIN HM3 HP3 HB3 hlen
      go_wp2_with fail
      go_roundg (gk - 1)
      case measure=>omega
      case rel=>exact⟨B,f,n+1,_,rfl,rfl,by omega,HSZ.out.2.1,HSZ.out.1,HNX⟩
     ·have hs1:0 < seen.length:=List.length_pos_iff.2 h0
      have hgt:(1:Int) < ((seen.length+[bl A].length:Nat):Int):=by simp;omega
      have HW:=hide (Tryz.Builder_WriteByte_k w.heap.size w.heap.size _ 32 w3 HP3.out (by have:=HSZ.out;rw[Lib.byteCells_length];omega) HB3.out.size)
      go_wp2_with fail
      refine HW.out.mono ?_
      rintro e w4 ⟨rfl,p4,b4,k4⟩
      have HM4:=hide (map_other HM3.out k4 (by omega))
      have HB4:=hide (HB3.out.trans b4)
      have HP4:Hid (Dm.PB w w4 (San.joinB seen++[32])):=hide (by
       have e:Lib.byteCells (San.joinB seen++[32])=Lib.byteCells (San.joinB seen)++[.int .u8 32]:=by rw[Lib.byteCells_append];rfl
       unfold Dm.PB
       rw[e]
       exact .inr p4)
      have HW2:=hide (Dm.ws_st w w4 _ A HB4.out HP4.out (by have:=HSZ.out;rw[List.length_append];simp;omega))
      clear HW p4 b4 k4 HM3 HP3 HB3 hlen hgt hs1
      go_wp2_with fail
      refine HW2.out.mono ?_
      rintro e w5 ⟨rfl,p5,b5,k5⟩
      have HNX:=hide (HFIN.out w5 (HB4.out.trans b5) (by rw[San.joinB_snoc,if_neg h0,List.append_cons];exact p5) (map_other HM4.out k5 (by omega)))
      clear HW2 p5 b5 k5 HFIN HM4 HP4 HB4
      go_wp2_with fail
      go_roundg (gk - 1)
      case measure=>omega
      case rel=>exact⟨B,f,n+1,_,rfl,rfl,by omega,HSZ.out.2.1,HSZ.out.1,HNX⟩
   ·rw[decide_eq_false hcl] at CA
    have HE:=hide (HST.out seen (cls_out (fun h=>hcl h.1)))
    have HNX:Hid (ClsI w (cs.map bl) R (bl B) f n seen w1):=hide ⟨HB.out,HP.out,⟨D,HMAP.out,HMC.out⟩,HE.out.1,HE.out.2,by have:=HSZ.out;omega,fun h=>by have:=HSZ.out.2.2.2.2 h;have:=HSZ.out;rw[bl_len];omega⟩
    clear hmap hmc HP HB HMC HMAP HE HST hcl
    go_wp2_with fail
    refine CA.out.mono ?_
    rintro e w2 ⟨rfl,rfl⟩
    clear CA
    go_wp2_with fail
    go_roundg (gk - 1)
    case measure=>omega
    case rel=>exact⟨B,f,n,seen,rfl,rfl,by omega,HSZ.out.2.1,HSZ.out.1,HNX⟩
end Go.Proofs.YtkiofbikkhhdfabGreatDoor

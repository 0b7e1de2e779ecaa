import Derived.Test.YtkiofbikkhhdfabGreatDoorK07
set_option maxRecDepth 100000
set_option maxHeartbeats 4000000
namespace Go.Proofs.YtkiofbikkhhdfabGreatDoor.Dm
open Go.RowKit
open Utf1
def CB (w:World) (B:Nat) (a:Nat->Value) (ov pa bv:Value):Prop:=w.heap[B]?=some (.cells #[a 0,a 1,a 2,a 3,a 4,a 5,a 6,a 7,a 8,ov,pa,bv] 141 (0,0))
theorem clen_any (w:World) (B:Nat) (a:Nat->Value) (ov pa:Value) (p:Option Addr) (m c:Nat)(h:CB w B a ov pa (.slice p m c)) :
  Calls Tryz.prog 82 #[.pointer (some ⟨B,10,none⟩)] w fun e w'=>e=.returned (.int .i64 (m:Int))/\w'=w:=by
 have c2:w.cell? ⟨B,11,none⟩=some (.slice p m c):=tag_cell h 11 _ rfl
 clear h
 go_enter Tryz.func82,Tryz.ntmps82
 go_wp2_with fail
 go_ret
 exact⟨rfl,rfl⟩
theorem creset_any (w:World) (B:Nat) (a:Nat->Value) (ov pa bv:Value)(h:CB w B a ov pa bv) :
  Calls Tryz.prog 83 #[.pointer (some ⟨B,10,none⟩)] w fun e w'=>e=.returned (.tuple #[])/\w'=(w.setCell ⟨B,10,none⟩ (.pointer none)).setCell ⟨B,11,none⟩ (.slice none 0 0):=by
 have c1:w.cell? ⟨B,10,none⟩=some pa:=tag_cell h 10 _ rfl
 have c2:w.cell? ⟨B,11,none⟩=some bv:=tag_cell h 11 _ rfl
 have f1:=tag_free h 10
 have f2:=tag_free h 11
 clear h
 go_enter Tryz.func83,Tryz.ntmps83
 go_wp2_with fail
 go_end0
 exact⟨rfl,rfl⟩
theorem liesCleaner:liesAt Tryz.prog Tryz.prog.depth 141 (12 / Tryz.prog.cellsOf 141) 10 71 1=true:=by kernel_rfl
theorem cb_shape {w:World}{B:Nat}{a:Nat->Value}{ov pa bv:Value}(h:CB w B a ov pa bv):w.shape? B=some (141,12):=by
 unfold CB at h
 simp[World.shape?,h]
theorem ccheck_used (w:World) (B:Nat) (a:Nat->Value) (ov bv:Value)(h:CB w B a ov (.pointer (some ⟨B,10,none⟩)) bv) :
  Calls Tryz.prog 97 #[.pointer (some ⟨B,10,none⟩)] w fun e w'=>e=.returned (.tuple #[])/\w'=w:=by
 obtain⟨j,hj,_⟩:=Option.map_eq_some_iff.1 sizeBuilder
 have c1:w.cell? ⟨B,10,none⟩=some (.pointer (some ⟨B,10,none⟩)):=tag_cell h 10 _ rfl
 clear h
 go_enter Tryz.func97,Tryz.ntmps97
 go_wp2_with fail
 rw[Lib.run_neq_ptr_same w _ Tryz.underlying69 hj]
 go_wp2
 go_end0
 exact⟨rfl,rfl⟩
theorem ccheck_none (w:World) (B:Nat) (a:Nat->Value) (ov bv:Value)(h:CB w B a ov (.pointer none) bv) :
  Calls Tryz.prog 97 #[.pointer (some ⟨B,10,none⟩)] w fun e w'=>e=.returned (.tuple #[])/\w'=w.setCell ⟨B,10,none⟩ (.pointer (some ⟨B,10,none⟩)):=by
 obtain⟨j,hj,hjs⟩:=Option.map_eq_some_iff.1 sizeBuilder
 have hsh:=cb_shape h
 have c1:w.cell? ⟨B,10,none⟩=some (.pointer none):=tag_cell h 10 _ rfl
 have f1:=tag_free h 10
 clear h
 go_enter Tryz.func97,Tryz.ntmps97
 go_wp2_with fail
 rw[Lib.run_to_unsafe w ⟨B,10,none⟩ Tryz.underlying69 Tryz.underlying152 hj (by rw[hjs];decide) hsh (show 10 < 12 by decide)]
 simp only[Result.andThen]
 rw[Oper.upon_value]
 go_wp2_with fail
 rw[run_callFunc_extern Tryz.func126 (by kernel_rfl) (by kernel_rfl) (by kernel_rfl) (e:=Extern.AbiNoEscape.same) (by kernel_rfl)]
 rw[Lib.run_noEscape]
 simp only[Result.andThen]
 rw[Oper.upon_value]
 go_wp2_with fail
 rw[Lib.run_from_unsafe w ⟨B,10,none⟩ Tryz.underlying152 Tryz.underlying69 hj hsh liesCleaner]
 simp only[Result.andThen]
 rw[Oper.upon_value]
 go_wp2
 go_end0
 exact⟨rfl,rfl⟩
theorem cb_set {w:World}{B:Nat}{a:Nat->Value}{ov pa bv:Value}(h:CB w B a ov pa bv) (v:Value):CB (w.setCell ⟨B,10,none⟩ v) B a ov v bv/\CB (w.setCell ⟨B,11,none⟩ v) B a ov pa v:=⟨tok_set h 10 v,tok_set h 11 v⟩
theorem cstays_set {w:World}{B:Nat}{a:Nat->Value}{ov pa bv:Value}(h:CB w B a ov pa bv) (j:Nat) (v:Value):Stays w (w.setCell ⟨B,j,none⟩ v) [B]:=by
 refine⟨by simp,fun k hk hS=>Below.heap_setCell _ _ _ _ (by simpa using hS),fun k hk cs fz e=>?_⟩
 have:k=B:=by simpa using hk
 subst this
 unfold CB at h
 rw[h] at e
 simp at e
theorem cwrite_at (w0 w:World) (B base:Nat) (a:Nat->Value) (ov bv:Value) (l:List Value) (s:ByteArray)(hck:Calls Tryz.prog 97 #[.pointer (some ⟨B,10,none⟩)] w0 fun e w'=>e=.returned (.tuple #[])/\w'=w)(h:CB w B a ov (.pointer (some ⟨B,10,none⟩)) bv)(hown:w.ownsRow base 5 1 bv l.length l)(hl:l.length+s.size<=100000000)(hbB:base<=B) :
  Calls Tryz.prog 59 #[.pointer (some ⟨B,10,none⟩),.string s] w0 fun e w'=>e=.returned (.tuple #[.int .i64 (s.size:Int),.nilIface])/\∃ bv',CB w' B a ov (.pointer (some ⟨B,10,none⟩)) bv'/\w'.ownsRow base 5 1 bv' (l.length+s.size) (l++Lib.strCells s)/\Stays w w' (B :: blk bv)/\Below base w w':=by
 obtain⟨i0,hi,hz0,hz1,hz2⟩:=info_parts infoByte
 have HC:=hide hck
 clear hck
 obtain⟨bp,bm,bc,rfl⟩:=own_slice hown
 have c2:w.cell? ⟨B,11,none⟩=some (.slice bp bm bc):=tag_cell h 11 _ rfl
 have hBl:B < w.heap.size:=lt_of_block h
 have HB:=hide h
 have HO:=hide hown
 clear h hown
 go_enter Tryz.func59,Tryz.ntmps59
 go_wp2_with fail
 refine HC.out.mono ?_
 rintro e w1 ⟨rfl,rfl⟩
 clear HC
 go_wp2_with (at_builtin;refine Lib.wpList_append_own_string _ rfl _ _ 25 9 rfl base 5 i0 Tryz.underlying25 Tryz.underlying9 hi hz0 hz1 hz2 (.slice bp bm bc) l.length l rfl HO.out s rfl (by unfold maxLen;omega) (by omega) (by omega) ?_)
 intro v' w2 hown2 hgr2 _
 have hap:=own_apart HO.out HB.out (by decide)
 have hb2:CB w2 B a ov (.pointer (some ⟨B,10,none⟩)) (.slice bp bm bc):=(hgr2.block _ hBl (fun e=>hap e.symm)).trans HB.out
 have d2:w2.cell? ⟨B,11,none⟩=some (.slice bp bm bc):=tag_cell hb2 11 _ rfl
 have g2:=tag_free hb2 11
 obtain⟨vp,vm,vc,rfl⟩:=own_slice hown2
 have HX:Hid (CB (w2.setCell ⟨B,11,none⟩ (.slice vp vm vc)) B a ov (.pointer (some ⟨B,10,none⟩)) (.slice vp vm vc)/\(w2.setCell ⟨B,11,none⟩ (.slice vp vm vc)).ownsRow base 5 1 (.slice vp vm vc) (l.length+s.size) (l++Lib.strCells s)/\Stays w1 (w2.setCell ⟨B,11,none⟩ (.slice vp vm vc)) (B :: blk (.slice bp bm bc))/\Below base w1 (w2.setCell ⟨B,11,none⟩ (.slice vp vm vc))):=hide (by
  refine⟨(cb_set hb2 _).2,own_set hown2 hb2 (by decide) 11 _,⟨?_,?_,?_⟩,?_⟩
  ·simpa using hgr2.size
  ·intro k hk hS
   have h1:k≠B:=fun e=>hS (by rw[e];exact List.mem_cons_self ..)
   rw[Below.heap_setCell _ _ _ _ (by simpa using h1)]
   refine hgr2.block k hk fun e=>hS (List.mem_cons_of_mem _ ?_)
   unfold blk
   rw[<-e]
   simp
  ·intro k hk cs fz e
   rcases List.mem_cons.1 hk with rfl | hk
   ·have:=HB.out
    unfold CB at this
    rw[this] at e
    simp at e
   ·have h2:(Value.slice bp bm bc).ownBlock=some k:=by
     unfold blk at hk
     simpa using hk
    exact own_apart HO.out e (by decide) h2
  ·have hg:Below base w1 w2:=(Below.refl base w1).grown hgr2 (by omega) (fun j hj=>(HO.out.lt j hj).1)
   exact hg.setCell (p:=⟨B,11,none⟩) hbB _)
 clear hown2 hgr2 hap hb2 HB HO
 go_wp2_with fail
 go_ret2
 exact⟨rfl,_,HX.out⟩
def CWait (w:World) (base B:Nat) (pa bv:Value) (t:List UInt8):Prop:=(pa=.pointer none\/pa=.pointer (some ⟨B,10,none⟩))/\w.ownsRow base 5 1 bv (Lib.byteCells t).length (Lib.byteCells t)
theorem cwrite_any (w:World) (B base:Nat) (a:Nat->Value) (ov pa bv:Value) (t:List UInt8) (s:ByteArray)(h:CB w B a ov pa bv)(hw:CWait w base B pa bv t)(hl:t.length+s.size<=100000000)(hbB:base<=B) :
  Calls Tryz.prog 59 #[.pointer (some ⟨B,10,none⟩),.string s] w fun e w'=>e=.returned (.tuple #[.int .i64 (s.size:Int),.nilIface])/\∃ pa' bv',CB w' B a ov pa' bv'/\CWait w' base B pa' bv' (t++bl s)/\Stays w w' (B :: blk bv)/\Below base w w':=by
 have hlen:(Lib.byteCells t).length+s.size<=100000000:=by rw[byte_len];exact hl
 have hfin:∀ {w':World}{bv':Value},w'.ownsRow base 5 1 bv' ((Lib.byteCells t).length+s.size) (Lib.byteCells t++Lib.strCells s)->w'.ownsRow base 5 1 bv' (Lib.byteCells (t++bl s)).length (Lib.byteCells (t++bl s)):=by
  intro w' bv' h
  rw[byte_app,List.length_append,byte_len (bl s),bl_len]
  exact h
 obtain⟨hp | hp,hown⟩:=hw
 ·subst hp
  have h1:=(cb_set h (.pointer (some ⟨B,10,none⟩))).1
  refine (cwrite_at w _ B base a ov bv _ s (ccheck_none w B a ov bv h) h1 (own_set hown h (by decide) 10 _) hlen hbB).mono ?_
  rintro e w' ⟨rfl,bv',h2,h3,h4,h5⟩
  have hst:=cstays_set h 10 (.pointer (some ⟨B,10,none⟩))
  refine⟨rfl,_,bv',h2,⟨.inr rfl,hfin h3⟩,?_,((Below.refl base w).setCell (p:=⟨B,10,none⟩) hbB _).trans h5⟩
  have h6:=hst.trans h4 (by
   intro k hk hkl cs fz e
   rcases List.mem_cons.1 hk with rfl | hk
   ·unfold CB at h
    rw[h] at e
    simp at e
   ·have h2:bv.ownBlock=some k:=by
     unfold blk at hk
     simpa using hk
    exact own_apart hown e (by decide) h2)
  exact⟨h6.size,fun k hk hS=>h6.block k hk (by simpa using hS),fun k hk=>h6.attr k (by simpa using hk)⟩
 ·subst hp
  refine (cwrite_at w w B base a ov bv _ s (ccheck_used w B a ov bv h) h hown hlen hbB).mono ?_
  rintro e w' ⟨rfl,bv',h2,h3,h4,h5⟩
  exact⟨rfl,_,bv',h2,⟨.inr rfl,hfin h3⟩,h4,h5⟩
theorem cstring_any (w:World) (B base:Nat) (a:Nat->Value) (ov pa bv:Value) (t:List UInt8)(h:CB w B a ov pa bv)(hw:CWait w base B pa bv t)(h0:t≠[]) :
  Calls Tryz.prog 60 #[.pointer (some ⟨B,10,none⟩)] w fun e w'=>e=.returned (.string ⟨t.toArray⟩)/\CB w' B a ov pa bv/\Stays w w' (blk bv)/\Below base w w':=by
 have hown:=hw.2
 have hl0:t.length≠0:=by simpa using h0
 rw[byte_len] at hown
 obtain⟨g,cap,cur,rfl,hbg,hg,hnc,hcm,hcs,htake⟩:∃ g cap cur,bv=.slice (some ⟨g,0,none⟩) t.length cap/\base<=g/\w.heap[g]?=some (.cells cur 5 (0,0))/\t.length<=cap/\cap<=maxLen/\cur.size=cap*1/\cur.toList.take (t.length*1)=Lib.byteCells t:=by
  rcases hown.2 with⟨_,hz⟩ | ⟨g,cap,cur,hv,r⟩
  ·exact absurd hz hl0
  ·exact⟨g,cap,cur,hv,r⟩
 have c2:w.drew.cell? ⟨B,11,none⟩=some (.slice (some ⟨g,0,none⟩) t.length cap):=tag_cell h 11 _ rfl
 have hSD:(Builtin.unsafeSliceData_ #[25] 129 #[.slice (some ⟨g,0,none⟩) t.length cap]).run Tryz.prog w.drew=.ok (.pointer (some ⟨g,0,none⟩)) w.drew :=
  Lib.run_unsafeSliceData_row _ _ _ _ _ _ (by omega)
 have hUS:(Builtin.unsafeString_ #[129,3] 9 #[.pointer (some ⟨g,0,none⟩),.int .i64 t.length]).run Tryz.prog w.drew=.ok (.string ⟨t.toArray⟩) (w.drew.freeze ⟨g,0,none⟩ t.length):=by
  refine Lib.run_unsafeString_row w.drew 129 3 9 5 Tryz.underlying129 cellsByte g cur.size (by have hg':w.drew.heap[g]?=some (.cells cur 5 (0,0)):=hg;simp[World.shape?,hg']) t h0 (by omega) (by unfold maxLen at hcm;omega) ?_
  intro j x hx
  have:=hown.cells (g:=g) rfl j (.int .u8 x.toNat) (by simp[Lib.byteCells,hx])
  exact this
 have HB:=hide h
 have HO:=hide hown
 have hap:=own_apart hown h (by decide)
 have HF:Hid (CB (w.drew.freeze ⟨g,0,none⟩ t.length) B a ov pa (.slice (some ⟨g,0,none⟩) t.length cap)/\Stays w (w.drew.freeze ⟨g,0,none⟩ t.length) (blk (.slice (some ⟨g,0,none⟩) t.length cap))/\Below base w (w.drew.freeze ⟨g,0,none⟩ t.length)):=hide (by
  have hb:=Lib.below_freeze (Below.drew (Below.refl base w)) (p:=⟨g,0,none⟩) hbg t.length
  have hne:∀ k,k≠g->(w.drew.freeze ⟨g,0,none⟩ t.length).heap[k]?=w.heap[k]?:=by
   intro k hk
   unfold World.freeze
   simp only[h0,List.length_eq_zero_iff,if_false]
   show (w.heap.modify g _)[k]?=_
   rw[Array.getElem?_modify,if_neg (Ne.symm hk)]
  refine⟨(hne B (fun e=>hap (by rw[e];rfl))).trans h,⟨hb.size,fun k _ hS=>hne k (fun e=>hS (by rw[e];simp[blk,Value.ownBlock])),?_⟩,hb⟩
  intro k hk cs fz e
  have:k=g:=by simpa [blk,Value.ownBlock] using hk
  subst this
  rw[hg] at e
  simp at e)
 clear hw h hown hap hg htake hcs
 go_enter Tryz.func60,Tryz.ntmps60
 go_wp2_with fail
 go_region
 all_goals (go_wp2_with fail;go_ret;exact⟨rfl,HF.out⟩)
end Go.Proofs.YtkiofbikkhhdfabGreatDoor.Dm

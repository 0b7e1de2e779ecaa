import Derived.Test.YtkiofbikkhhdfabGreatDoorK28
namespace Go.Proofs.YtkiofbikkhhdfabGreatDoor.Dm
open Go.RowKit
open Utf1 Pol8
def plP:Pol:=⟨1,[],[],[],[],[],9,99,999⟩
def plR:List UInt8:=[60,98,62,120,60,47,98,62]
theorem plP_fits:fits plP:=by
 intro l hl
 simp only[plP,List.mem_cons,List.not_mem_nil,or_false] at hl
 rcases hl with rfl | rfl | rfl | rfl | rfl <;> simp
theorem plP_x:cleanX plP plR=[120]:=by decide +kernel
theorem plP_e:cleanE plP plR=0:=by decide +kernel
theorem plR_fix:(fix plR).length<=40000:=by decide +kernel
theorem plP_v (w:World):PolV w (.slice none 0 0) (.slice none 0 0) (.slice none 0 0) (.slice none 0 0) (.slice none 0 0) plP [] [] [] [] []:=⟨strArg_nil _,strArg_nil _,strArg_nil _,strArg_nil _,strArg_nil _,rfl,rfl,rfl,rfl,rfl,trivial⟩
theorem plR_new (w:World):Uf.IsBytes (w.alloc (.cells #[.int .u8 60,.int .u8 98,.int .u8 62,.int .u8 120,.int .u8 60,.int .u8 47,.int .u8 98,.int .u8 62] 5 (8,9))) (.slice (some ⟨w.heap.size,0,none⟩) 8 8) plR:=by
 have e:(plR.map fun b=>Value.int .u8 (b.toNat:Int)).toArray=#[.int .u8 60,.int .u8 98,.int .u8 62,.int .u8 120,.int .u8 60,.int .u8 47,.int .u8 98,.int .u8 62]:=by kernel_rfl
 rw[<-e]
 exact Uf.isBytes_new w _ (8,9) plR 8 8 rfl (Uf.cells_of plR)
theorem plain_any (w:World):Calls Tryz.prog 64 #[] w fun e w'=>e=.returned (.agg #[.int .i64 1,.slice none 0 0,.slice none 0 0,.slice none 0 0,.slice none 0 0,.slice none 0 0,.int .i64 9,.int .i64 99,.int .i64 999])/\Below w.heap.size w w':=by
 go_enter Tryz.func64,Tryz.ntmps64
 go_wp2_with fail
 refine bodyPost_ret (results_cell_row rfl _ _ w.heap.size 24 #[.int .i64 1,.slice none 0 0,.slice none 0 0,.slice none 0 0,.slice none 0 0,.slice none 0 0,.int .i64 9,.int .i64 99,.int .i64 999] (0,0) _ rfl ?_ Tryz.underlying24 rfl (by kernel_rfl)) rfl ?_
 ·exact new_block _ _ _
 ·exact⟨rfl,bel_alloc (Below.refl _ _) _⟩
set_option maxRecDepth 100000 in
set_option maxHeartbeats 16000000 in
theorem top_awake (w:World)(hg:To.Glob w)(hgm:To.GlobM w) :
  Calls Tryz.prog 20 #[] w fun e w'=>e=.returned (.bool true)/\Below w.heap.size w w':=by
 have CP:=hide (plain_any w)
 have HG:=hide (And.intro hg hgm)
 clear hg hgm
 go_enter Tryz.func20,Tryz.ntmps20
 go_wp2_with fail
 refine CP.out.mono ?_
 rintro e w1 ⟨rfl,h1⟩
 clear CP
 obtain⟨w2,hw2⟩:∃ w2,w2=w1.alloc (.cells #[.int .u8 60,.int .u8 98,.int .u8 62,.int .u8 120,.int .u8 60,.int .u8 47,.int .u8 98,.int .u8 62] 5 (8,9)):=⟨_,rfl⟩
 have hcv:(convert 25 25 (.slice (some ⟨w1.heap.size,0,none⟩) 8 8)).run Tryz.prog (w1.alloc (.cells #[.int .u8 60,.int .u8 98,.int .u8 62,.int .u8 120,.int .u8 60,.int .u8 47,.int .u8 98,.int .u8 62] 5))=.ok (.slice (some ⟨w1.heap.size,0,none⟩) 8 8) w2:=by
  rw[hw2]
  exact Lib.run_convert_bytes_const w1 25 5 _ 8 8 Tryz.underlying25 Tryz.underlying5
 have hb2:Below w.heap.size w w2:=bel2 h1 (by rw[hw2];exact bel_alloc (Below.refl _ _) _)
 have HR:=plR_new w1
 rw[<-hw2] at HR
 have HB2:=hide hb2
 have CC:=hide (pclean_any plP_fits _ _ _ _ _ _ _ _ _ _ _ plR w2 (plP_v w2) HR (by decide) (fun _=>plR_fix) (HG.out.1.below hb2) (HG.out.2.below hb2))
 rw[plP_x,plP_e] at CC
 clear HR hb2 h1
 go_wp2_with fail
 rw[<-hw2]
 clear hw2 hcv
 refine CC.out.mono ?_
 rintro e w3 ⟨rfl,h3⟩
 have HB:=hide (bel2 HB2.out h3)
 clear CC h3 HB2
 go_wp2_with fail
 go_ret
 exact⟨ret_bool (by decide +kernel),HB.out⟩
end Go.Proofs.YtkiofbikkhhdfabGreatDoor.Dm

/- Region 5 of MeanNots: two boxes are made, in whatever order. Conditions: what it reads stands in every world that keeps the blocks. -/
import Derived.Test.YtnbjhcemonkhhaaMeL2
import Derived.Test.YtnbjhcemonkhhaaBx
import Derived.Deep.RegionHeld3
import Derived.Deep.Cut
import Derived.Test.YtnbjhcemonkhhaaMeQ3
namespace Go.Proofs.Ytnbjhcemonkhhaa.Mean
set_option linter.unusedVariables false
set_option linter.unusedSimpArgs false
set_option maxRecDepth 100000
open Go.ChangeShapes Go.WideShapes Go.ChangeAt Go.RowKit
set_option maxHeartbeats 64000000 in
theorem region5 (qa qb : Nat) (ka fa : Int) (Ra : Option Addr) (rna rca : Nat) (la ha : Nat) (Oa : Option Addr) (ona oca : Nat) (kb fb : Int) (Rb : Option Addr) (rnb rcb : Nat) (lb hb : Nat) (Ob : Option Addr) (onb ocb : Nat)
    (w5 : World) (hS : ∀ W, Keep w5 W → W.cell? ⟨qa, 0, none⟩ = some (.int .i64 ka) ∧ W.cell? ⟨qa, 1, none⟩ = some (.int .i64 fa) ∧ W.cell? ⟨qa, 2, none⟩ = some (.slice Ra rna rca) ∧ W.cell? ⟨qa, 3, none⟩ = some (.float .f64 la) ∧ W.cell? ⟨qa, 4, none⟩ = some (.float .f64 ha) ∧ W.cell? ⟨qa, 5, none⟩ = some (.slice Oa ona oca) ∧ W.cell? ⟨qb, 0, none⟩ = some (.int .i64 kb) ∧ W.cell? ⟨qb, 1, none⟩ = some (.int .i64 fb) ∧ W.cell? ⟨qb, 2, none⟩ = some (.slice Rb rnb rcb) ∧ W.cell? ⟨qb, 3, none⟩ = some (.float .f64 lb) ∧ W.cell? ⟨qb, 4, none⟩ = some (.float .f64 hb) ∧ W.cell? ⟨qb, 5, none⟩ = some (.slice Ob onb ocb))
    (v0 v1 v2 v3 v4 v5 v6 v9 v10 v11 v12 v13 v14 v15 v16 v17 v18 v19 v20 v21 v22 v23 v24 v25 v26 v27 v28 v29 v30 v31 v32 v33 v34 v35 v36 v37 v38 v39 v40 v41 v42 v43 v44 v45 v46 v47 v48 v49 v50 v51 v52 v53 v54 v55 v56 v57 v58 v59 v60 v61 v62 v63 v64 v65 v66 v67 v68 v69 v70 v71 v72 v73 v74 v75 v76 v77 v78 v79 v80 v81 v82 v83 v84 v85 v86 v87 v88 v89 v90 v91 v92 v93 v94 v95 v96 v97 v98 v99 v100 v101 v102 v103 v104 v105 v106 v107 v108 v109 v110 v111 v112 v113 v114 v115 v116 v117 v118 v119 v120 v121 v122 v123 v124 : Value) (Q : Exit → Act → World → Prop) (hQ : ∀ (q1 q2 : Nat) (u61 u62 u63 u64 u65 u66 u67 u68 : Value) (W : World), (∃ s, Bx W q1 [.int .i64 3, .int .i64 0, .slice none 0 0, .float .f64 0, .float .f64 0, .slice (some ⟨s, 0, none⟩) 2 2] ∧ Bx W s [.int .i64 ka, .int .i64 fa, .slice Ra rna rca, .float .f64 la, .float .f64 ha, .slice Oa ona oca, .int .i64 kb, .int .i64 fb, .slice Rb rnb rcb, .float .f64 lb, .float .f64 hb, .slice Ob onb ocb]) → (∃ s, Bx W q2 [.int .i64 4, .int .i64 0, .slice none 0 0, .float .f64 0, .float .f64 0, .slice (some ⟨s, 0, none⟩) 2 2] ∧ Bx W s [.int .i64 ka, .int .i64 fa, .slice Ra rna rca, .float .f64 la, .float .f64 ha, .slice Oa ona oca, .int .i64 kb, .int .i64 fb, .slice Rb rnb rcb, .float .f64 lb, .float .f64 hb, .slice Ob onb ocb]) → Keep w5 W → Q .normal { tmps := #[v0, v1, v2, v3, v4, v5, v6, (.pointer (some ⟨qa, 0, none⟩)), (.pointer (some ⟨qb, 0, none⟩)), v9, v10, (.pointer (some ⟨q1, 0, none⟩)), (.pointer (some ⟨q2, 0, none⟩)), v13, v14, v15, v16, v17, v18, v19, v20, v21, v22, v23, v24, v25, v26, v27, v28, v29, v30, v31, v32, v33, v34, v35, v36, v37, v38, v39, v40, v41, v42, v43, v44, v45, v46, v47, v48, v49, v50, v51, v52, v53, v54, v55, v56, v57, v58, v59, v60, u61, u62, u63, u64, u65, u66, u67, u68, v69, v70, v71, v72, v73, v74, v75, v76, v77, v78, v79, v80, v81, v82, v83, v84, v85, v86, v87, v88, v89, v90, v91, v92, v93, v94, v95, v96, v97, v98, v99, v100, v101, v102, v103, v104, v105, v106, v107, v108, v109, v110, v111, v112, v113, v114, v115, v116, v117, v118, v119, v120, v121, v122, v123, v124], defers := [] } W) :
    ((regs (Try.f5.body.getD .ret)).getD 5 .ret).wp Try.prog
      Q { tmps := #[v0, v1, v2, v3, v4, v5, v6, (.pointer (some ⟨qa, 0, none⟩)), (.pointer (some ⟨qb, 0, none⟩)), v9, v10, v11, v12, v13, v14, v15, v16, v17, v18, v19, v20, v21, v22, v23, v24, v25, v26, v27, v28, v29, v30, v31, v32, v33, v34, v35, v36, v37, v38, v39, v40, v41, v42, v43, v44, v45, v46, v47, v48, v49, v50, v51, v52, v53, v54, v55, v56, v57, v58, v59, v60, v61, v62, v63, v64, v65, v66, v67, v68, v69, v70, v71, v72, v73, v74, v75, v76, v77, v78, v79, v80, v81, v82, v83, v84, v85, v86, v87, v88, v89, v90, v91, v92, v93, v94, v95, v96, v97, v98, v99, v100, v101, v102, v103, v104, v105, v106, v107, v108, v109, v110, v111, v112, v113, v114, v115, v116, v117, v118, v119, v120, v121, v122, v123, v124], defers := [] } w5 := by
  have hsf := Tr.store_float Try.prog
  have kY := Keep.refl w5
  have kD := keepd (Keep.refl w5)
  simp only [Try.f5, regs, List.cons_append, List.nil_append, List.append_nil, List.getD_cons_succ, List.getD_cons_zero, Option.getD_some]
  go_region_held3 (fun W => W.cell? ⟨qa, 0, none⟩ = some (.int .i64 ka) ∧ W.cell? ⟨qa, 1, none⟩ = some (.int .i64 fa) ∧ W.cell? ⟨qa, 2, none⟩ = some (.slice Ra rna rca) ∧ W.cell? ⟨qa, 3, none⟩ = some (.float .f64 la) ∧ W.cell? ⟨qa, 4, none⟩ = some (.float .f64 ha) ∧ W.cell? ⟨qa, 5, none⟩ = some (.slice Oa ona oca) ∧ W.cell? ⟨qb, 0, none⟩ = some (.int .i64 kb) ∧ W.cell? ⟨qb, 1, none⟩ = some (.int .i64 fb) ∧ W.cell? ⟨qb, 2, none⟩ = some (.slice Rb rnb rcb) ∧ W.cell? ⟨qb, 3, none⟩ = some (.float .f64 lb) ∧ W.cell? ⟨qb, 4, none⟩ = some (.float .f64 hb) ∧ W.cell? ⟨qb, 5, none⟩ = some (.slice Ob onb ocb))
    (first
      | (refine hS _ ?_; repeat' (first | with_reducible exact kY | with_reducible exact kD | with_reducible refine keepd ?_ | with_reducible refine Keep.alloc ?_ _))
      | fail)
    (fail)
  all_goals (
    go_wp2_with fail
    refine hQ _ _ _ _ _ _ _ _ _ _ _ ?_ ?_ ?_
    · apply Exists.intro
      refine ⟨?_, ?_⟩ <;> repeat' (first | with_reducible exact Bx.new0 | with_reducible exact Bx.new1 | with_reducible exact Bx.new2 | with_reducible exact Bx.new3 | with_reducible refine Bx.drew ?_ | with_reducible refine Bx.alloc ?_ _)
    · apply Exists.intro
      refine ⟨?_, ?_⟩ <;> repeat' (first | with_reducible exact Bx.new0 | with_reducible exact Bx.new1 | with_reducible exact Bx.new2 | with_reducible exact Bx.new3 | with_reducible refine Bx.drew ?_ | with_reducible refine Bx.alloc ?_ _)
    · repeat' (first | with_reducible exact kY | with_reducible exact kD | with_reducible refine keepd ?_ | with_reducible refine Keep.alloc ?_ _))
end Go.Proofs.Ytnbjhcemonkhhaa.Mean

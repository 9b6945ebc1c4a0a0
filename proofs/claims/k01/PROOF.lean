import PyProof.Rows.All
import Wide.All
import OpenK.AllK
import Wide.FinOn
import PySem.Challenge.RW_pyheap_k01_whole_sizes
set_option Elab.async false
open PySem PySem.W PyProof.Rows
open_top k01head for PySem.Challenge.rw_pyheap_k01_whole_sizes
namespace Pk
/-- The while of the drawing: so many turns at most, each while the rest is above 0. -/
def loop : Nat → Int → Int
  | 0, r => r
  | t + 1, r => if 0 < r then loop t (Int.fdiv r 840) else r
theorem loop_turn {t r : Int} (hr : 0 < r) (ht : 0 < t) : loop (t - 1).toNat (Int.fdiv r 840) = loop t.toNat r := by
  have e : t.toNat = (t - 1).toNat + 1 := by omega
  rw [e, loop, if_pos hr]
theorem loop_low {t r : Int} (h : ¬ 0 < r) : loop t.toNat r = r := by
  cases e : t.toNat with
  | zero => rfl
  | succ n => rw [loop, if_neg h]
theorem loop_none {t r : Int} (h : ¬ 0 < t) : loop t.toNat r = r := by
  have e : t.toNat = 0 := by omega
  rw [e]
  rfl
def cell (xs : List Int) (k : Int) : Int := xs.getD (k.fmod (xs.length : Int)).toNat 0
def turns (xs : List Int) (k : Int) : Int := k.fdiv (if 1 > (xs.length : Int) then 1 else (xs.length : Int))
def far (c : Int) : Int := Int.fdiv c (10 ^ Int.toNat 18)
def drawn (c k many : Int) : Int :=
  ((((c * 31 + 6151 * (k + 1)) * 40692).fmod 2147483399 * ((c * 31 + 6151 * (k + 1)) * 40692).fmod 2147483399 +
    (((c * 31 + 6151 * (k + 1)) * 40692).fmod 2147483399).fdiv 31).fmod 2147483629).fmod many
def pick (xs : List Int) (k many : Int) : Int :=
  if 0 < loop (turns xs k).toNat (far (cell xs k)) then ((loop (turns xs k).toNat (far (cell xs k))).fmod 840).fmod many
  else drawn (cell xs k) k many
theorem pick_in (xs : List Int) (k many : Int) (h : 0 < many) : 0 ≤ pick xs k many ∧ pick xs k many < many := by
  unfold pick
  split
  · exact ⟨Int.fmod_nonneg_of_pos _ h, Int.fmod_lt_of_pos _ h⟩
  · exact ⟨Int.fmod_nonneg_of_pos _ h, Int.fmod_lt_of_pos _ h⟩
theorem cell_nil {xs : List Int} {k : Int} (h : ¬ 0 < xs.length) : cell xs k = 0 := by
  have e : xs = [] := List.length_eq_zero_iff.mp (by omega)
  rw [e]
  rfl
theorem out_high {xs : List Int} {k many r t : Int} (h : loop t.toNat r = loop (turns xs k).toNat (far (cell xs k))) (hr : 0 < r) (ht : ¬ 0 < t) :
    (r.fmod 840).fmod many = pick xs k many := by
  rw [loop_none ht] at h
  unfold pick
  rw [← h, if_pos hr]
theorem out_low {xs : List Int} {k many r t c : Int} (hc : c = cell xs k) (h : loop t.toNat r = loop (turns xs k).toNat (far (cell xs k))) (hr : ¬ 0 < r) :
    drawn c k many = pick xs k many := by
  rw [loop_low hr] at h
  unfold pick
  rw [← h, if_neg hr, hc]
theorem nil_high {xs : List Int} {k many r t : Int} (h : loop t.toNat r = loop (turns xs k).toNat (far 0)) (hn : ¬ 0 < xs.length) (hr : 0 < r) (ht : ¬ 0 < t) :
    (r.fmod 840).fmod many = pick xs k many := out_high (by rw [cell_nil hn]; exact h) hr ht
theorem nil_low {xs : List Int} {k many r t : Int} (h : loop t.toNat r = loop (turns xs k).toNat (far 0)) (hn : ¬ 0 < xs.length) (hr : ¬ 0 < r) :
    drawn 0 k many = pick xs k many := out_low (cell_nil hn).symm (by rw [cell_nil hn]; exact h) hr
theorem start {k n : Int} {P : Int} (hk : 0 ≤ k) : 0 ≤ k.fdiv (if 1 > n then 1 else n) ∧ P = P := by
  refine ⟨?_, rfl⟩
  split
  · rw [Int.fdiv_one]
    exact hk
  · rw [Int.fdiv_eq_ediv_of_nonneg k (by omega)]
    exact Int.ediv_nonneg hk (by omega)
theorem turn {t r X : Int} (ht : 0 < t) (hr : 0 < r) (h : loop t.toNat r = X) : 0 ≤ t - 1 ∧ loop (t - 1).toNat (r.fdiv 840) = X :=
  ⟨by omega, (loop_turn hr ht).trans h⟩
theorem bound {xs : List Int} {v : Int} (h : v ∈ List.map (fun a => a) (PyProof.Rows.rangeInts 0 1 (531 - 0 : Int).toNat) ++ List.map (fun k' => 531 + pick xs k' 9469) (PySem.W.rangeKs 0 (5 - 0 : Int).toNat) ++ [9999]) :
    0 ≤ v ∧ v ≤ 9999 := by
  rcases List.mem_append.mp h with h | h
  · rcases List.mem_append.mp h with h | h
    · rw [List.map_id'] at h
      obtain ⟨i, hi, e⟩ := List.mem_map.mp (show v ∈ (List.range _).map _ from h)
      have := List.mem_range.mp hi
      subst e
      omega
    · obtain ⟨k, _, e⟩ := List.mem_map.mp h
      have := pick_in xs k 9469 (by decide)
      omega
  · have := List.mem_singleton.mp h
    omega
open PySem PySem.W PySem.Calls PyProof.Rows
theorem fits {x y : Int} (hy : 0 < y) : x.fdiv y * y ≤ x ∧ x < (x.fdiv y + 1) * y := by
  have e : x = y * x.fdiv y + x.fmod y := by
    rw [Int.fmod_def]
    omega
  have r0 := Int.fmod_nonneg_of_pos x hy
  have r1 := Int.fmod_lt_of_pos x hy
  have c := Int.mul_comm (x.fdiv y) y
  have d : (x.fdiv y + 1) * y = x.fdiv y * y + y := by rw [Int.add_mul, Int.one_mul]
  omega
theorem two {x y : Int} (hy : 0 < y) (h : 2 * y ≤ x) : ¬ x.fdiv y < 2 := by
  intro h2
  have f := (fits (x := x) hy).2
  have g : (x.fdiv y + 1) * y ≤ 2 * y := Int.mul_le_mul_of_nonneg_right (by omega) (by omega)
  omega
section
variable {prog : Program} {w : World} {A : Around} {E : Value → Shared → Prop} {s : Shared} {a b : Addr} {xs : List Value} {ns : List Int} {Q : Value → Shared → Prop} {t u : Tok}
theorem step_ne_nil (ha : s.heap.IsList a xs.toArray) (hb : s.heap.IsList b ([] : List Value).toArray) (hi : IntsAre xs ns) (hu : A.units < cLine)
    (h : Q (.bool (decide (0 < ns.length))) s) : wpAny (model prog w) A (compareOp .NotEq (.ref a) (.ref b)) Q E s := by
  have hl := hi.length
  cases ns with
  | nil =>
    have e : xs = [] := List.length_eq_zero_iff.mp hl
    subst e
    exact PySem.SeqAt.RcNeAt.lists (e := fun _ => true) ha hb rfl hu (fun j h1 => absurd h1 (Nat.not_lt_zero j)) prog w E Q h
  | cons n r =>
    have e : decide (0 < (n :: r).length) = true := by simp
    rw [e] at h
    refine PySem.SeqAt.RcNeAt.lists_lengths ha hb ?_ hu prog w E Q h
    simp [hl]
theorem step_mul {k many : Int} (hm : 0 < many) (h : 0 ≤ pick ns k many → pick ns k many < many → Q (.int (16 * pick ns k many) s.toks) { s with toks := s.toks + 1 }) :
    wpAny (model prog w) A (binaryOp .Mult (.int 16 t) (.int (pick ns k many) u)) Q E s :=
  PyProof.Rows.mul_int (h (pick_in ns k many hm).1 (pick_in ns k many hm).2) (PySem.IntMulOk.of_left (PySem.intBits_le_64 (by decide) (by decide)))
theorem step_low {k many : Int} (hm : 0 < many) (h : 0 ≤ pick ns k many → pick ns k many < many → Q (.bool true) s) :
    wpAny (model prog w) A (compareOp .LtE (.int 0 t) (.int (pick ns k many) u)) Q E s := by
  refine PyProof.Rows.le_int ?_
  rw [decide_eq_true (pick_in ns k many hm).1]
  exact h (pick_in ns k many hm).1 (pick_in ns k many hm).2
theorem step_fits {x y p : Int} (hy : 0 < y) (hp : x + 48 ≤ p) (h : Q (.bool true) s) :
    wpAny (model prog w) A (compareOp .LtE (.int (48 + x.fdiv y * y) t) (.int p u)) Q E s := by
  have f := (fits (x := x) hy).1
  refine PyProof.Rows.le_int ?_
  rw [decide_eq_true (by omega)]
  exact h
theorem step_over {x y p : Int} (hy : 0 < y) (hp : p ≤ x + 48) (h : Q (.bool false) s) :
    wpAny (model prog w) A (compareOp .LtE (.int (48 + (x.fdiv y + 1) * y) t) (.int p u)) Q E s := by
  have f := (fits (x := x) hy).2
  refine PyProof.Rows.le_int ?_
  rw [decide_eq_false (by omega)]
  exact h
theorem step_two {x y : Int} (hy : 0 < y) (hp : 2 * y ≤ x) (h : Q (.bool false) s) :
    wpAny (model prog w) A (compareOp .Lt (.int (x.fdiv y) t) (.int 2 u)) Q E s := by
  refine PyProof.Rows.lt_int ?_
  rw [decide_eq_false (two hy hp)]
  exact h
end
end Pk
open PySem PySem.W PyProof.Rows
local macro_rules | `(tactic| walk_at "compareOp NotEq ref ref") => `(tactic| (k_here; (with_reducible show wpAny _ _ (compareOp CmpOp.NotEq (Value.ref _) (Value.ref _)) _ _ _); (k_dflt (refine Pk.step_ne_nil (by is_list) (by is_list) (by l_ints) (by first | ke_room | ktr_units) ?_))))
local macro_rules | `(tactic| walk_at "eval ListComp") => `(tactic| (k_here; (try k_made); (with_reducible show wpAny _ _ (eval _ _) _ _ _); kcf_look; (k_dflt (refine LCg.ListComp_U (F₀ := by k_asm) (by with_unfolding_all rfl) (by decide) (by rfl) (by decide) (by rfl) ?_))))
local macro_rules | `(tactic| walk_at "exec For Name BinOp cons nil") => `(tactic| (k_here; (rename Fr _ _ _ _ => lF'); (with_unfolding_all refine' For_invVF lF' ?k1 ?k2 ?_; (case k1 => exact rfl); (case k2 => exact rfl); k_whole)))
local macro_rules | `(tactic| walk_at "binaryOp Mult int int") => `(tactic| (k_here; (with_reducible refine' Pk.step_mul ?k1 ?_); (case k1 => decide); intro hlo' hhi'))
local macro_rules | `(tactic| walk_at "compareOp LtE int int") => `(tactic| (k_here; (with_reducible refine' Pk.step_low ?k1 ?_); (case k1 => decide); intro hlo' hhi'))
local macro_rules | `(tactic| walk_at "compareOp LtE int int") => `(tactic| (k_here; (with_reducible refine' Pk.step_fits ?k1 ?k2 ?_); (case k1 => k_dflt omega); (case k2 => k_dflt omega)))
local macro_rules | `(tactic| walk_at "compareOp LtE int int") => `(tactic| (k_here; (with_reducible refine' Pk.step_over ?k1 ?k2 ?_); (case k1 => k_dflt omega); (case k2 => k_dflt omega)))
local macro_rules | `(tactic| walk_at "compareOp Lt int int") => `(tactic| (k_here; (with_reducible refine' Pk.step_two ?k1 ?k2 ?_); (case k1 => k_dflt omega); (case k2 => k_dflt omega)))
local macro_rules | `(tactic| walk_at "call ref") => `(tactic| (k_here; (with_reducible rename (_ ∈ _) => hmem'); (have hbnd' := Pk.bound hmem'); clear hmem'; walk_at "call ref"))
set_option maxRecDepth 100000 in
set_option maxHeartbeats 8000000 in
theorem PySem.Challenge.cw_pyheap_k01_whole_sizes_holds : PySem.Challenge.rw_pyheap_k01_whole_sizes.Holds :=
  k01head (by
  k_with "tree" => (first | exact Pk.out_high (by assumption) (by omega) (by omega) | exact Pk.out_low rfl (by assumption) (by omega) | exact Pk.nil_high (by assumption) (by omega) (by omega) (by omega) | exact Pk.nil_low (by assumption) (by omega) (by omega))
  k_with "exec While BoolOp cons nil" => k_while_given ["_law_rest!", "_law_turn!"] (fun r₀ t₀ _ r t => 0 ≤ t ∧ Pk.loop t.toNat r = Pk.loop t₀.toNat r₀) (fun _ _ _ _ t => t.toNat) "_law_rest" "_law_turn"
  k_with "state" => (first | exact Pk.start (by omega) | exact Pk.turn (by omega) (by omega) (by assumption))
  k_with "call ref" => k_call_by "_law_pick" Pk.pick (fun (xs : List Int) (k many : Int) => xs.length ≤ 63 ∧ 0 ≤ k ∧ k ≤ 1000 ∧ 0 < many ∧ many ≤ 10000)
  k_with "pyIter ref" => (first | k_search (fun _ => True) | ((with_reducible show wpAny _ _ (pyIter (Value.ref _)) (fun it s₂ => LoopAtV _ _ _ _ _ _ _ _ _ it s₂) _ _); k_here; (rename Fr _ _ _ _ => lF'); (rename News _ _ _ _ => lN'); (rename IsRange _ _ _ _ _ _ _ _ => rgX); (with_unfolding_all refine' kst_range (fun (_ : Unit) => _) (fun _ => []) (fun _ => True) [Str.ofString "_law_page", Str.ofString "_law_kind", Str.ofString "_law_many"] (fun _ _ => True) () ?h1 ?h2 ?h3 ?h4 lF' lN' ?kf ?kk ?kp ?kt ?kd); (case h1 => with_unfolding_all rfl); (case h2 => with_unfolding_all (first | exact rgX | assumption)); (case h3 => with_unfolding_all decide); (case h4 => with_unfolding_all (first | exact rangeSize_nat _ _ | rfl)); (case kf => exact True.intro); (case kk => exact List.forall_mem_nil _); (case kp => exact True.intro); (all_goals (try clear lF' lN')); (case' kt => (intro kC kPre kN kT kU kH kTk kOwn kEq kLt kOff kFacts kInv kFr kNews; (have kMark := kstMark); (try dsimp only [kstB] at kFr); (try dsimp only at kNews); (try simp only [List.nil_append, List.cons_append, List.append_nil] at kNews); (try dsimp only at kOff); (try simp only [List.map_cons, List.map_nil] at kOff))); (case' kd => (intro kC kU kH kTk kFacts kInv kFr kNews; (have kMark := kstMark); (try dsimp only [kstB] at kFr); (try dsimp only at kNews); (try simp only [List.nil_append, List.cons_append, List.append_nil] at kNews))); (all_goals (try k_fold))))
  w_strict k_go)

import PyProof.Rows.All
import Wide.All
import OpenK.AllK
import Wide.FinOn
import HandS.Base
import HandS.Call
import HandS.List
import HandS.Comp
import HandS.Ends
import HandS.Dict
import HandS.Iter
import HandS.Text
import HandS.Words
import PyProof.Rows.StrNews2
import PyProof.StrLawsLast
import HandS.Wide
import HandS.Walk
import HandS.IsInst
import HandS.Style
import HandS.Codes
import HandS.Flow
import HandS.Evl
import PySem.Challenge.RW_crumbjar_k12_whole_paths_in_order
set_option Elab.async false
set_option linter.all false
set_option maxRecDepth 100000
set_option maxHeartbeats 4000000
namespace Kb
open PySem PySem.Spec PyProof.Rows L2
/-! ### a def of the text, a def that may be called -/
def Df (K : PySem.W.Frag) (mg : Str → Option Value) (x : Str) (st : Stmt) (ps : List Str) : Prop :=
  ∃ (f : Addr) (fd : FuncData), Fun K x x st f fd ∧ mg x = some (.ref f) ∧ ∀ us : List Value, us.length = ps.length → bindArgs fd ⟨us, []⟩ = pure (ps.zip us)
theorem Df.mk {K : PySem.W.Frag} {mg : Str → Option Value} {h : Heap} {x : Str} {st : Stmt} {ps : List Str} {f : Addr} {oc : Value} {od an : Option Addr} {sl : Array (Option Value)} {kV doc pm cd ct : Value} (X : K.In h) (G : h.Ns PySem.mainGlobals mg)
    (b : ∀ (kV doc pm : Value) (an : Option Addr) (cdv ct : Value) (us : List Value), us.length = ps.length → bindArgs (PySem.W.fnOf x x (defArgs st) (defBody st) (defScope st) .none kV doc pm an cdv ct) ⟨us, []⟩ = pure (ps.zip us))
    (a : PySem.W.nsIn K PySem.mainGlobals x = some (some (.ref f)))
    (l : K.lookup f = some ⟨oc, od, .func (PySem.W.fnOf x x (defArgs st) (defBody st) (defScope st) .none kV doc pm an cd ct), sl⟩)
    (c : PySem.W.codeIn K cd x = true) (k : PySem.W.keepIn K (.ref f) = true) : Df K mg x st ps :=
  ⟨f, _, fun_mk l c k, PySem.W.mg_of X G a, b kV doc pm an cd ct⟩
def Cal (P : Program) (w : World) (K : PySem.W.Frag) (mg : Str → Option Value) (base : Heap) (CX : CXT) (k : Nat) (x : Str) (ps : List Str) (sp : Sp) : Prop :=
  ∃ (f : Addr) (fd : FuncData), FnOk P w K mg base CX k f fd ps sp ∧ mg x = some (.ref f) ∧ PySem.W.keepIn K (.ref f) = true ∧ Binds K fd ps []
section
variable {P : Program} {w : World} {K : PySem.W.Frag} {mg : Str → Option Value} {base : Heap}
theorem Df.ok0 {x : Str} {st : Stmt} {N ps : List Str} {k : Nat} {sp : Sp} (D : Df K mg x st ps) (S : FnScope N ps (defScope st)) (len : ∀ vs H Q E, sp vs H Q E → vs.length = ps.length)
    (hbody : ∀ (f : Addr) (cdv : Value) (A : Around) (outer : List Env) (s : Shared) (H : Hp) (vs : List V) (Q : VK) (E : XK), Room k (A.deeper (envOfC x (defScope st) s.heap.objs.size f cdv)) → sp vs H Q E →
      ∃ t, PSs (cxOf CX0 P w K mg base N x (defScope st) f cdv A outer s H E).nox (defBody st) t ∧ t { nx := fun _ H' => Q .non H', rt := Q } (start N vs) H) : Cal P w K mg base CX0 (k + 1) x ps sp := by
  obtain ⟨f, fd, F, m, b⟩ := D
  exact ⟨f, fd, F.ok S len (hbody f), m, F.kp, .all b⟩
end
theorem pe_c {X : Cx} {CX : CXT} {j k : Nat} {x : Str} {ps : List Str} {sp : Sp} {E : XK} {p pos : Pos} {e : Expr} {es : List Expr} {t : TA} (c : Cal X.prog X.w X.K X.mg X.base CX j x ps sp) (hr : Room k X.A) (hjk : j ≤ k) (hg : Gl X x) (hx : Passes CX X E)
    (ha : PA X (e :: es) t) (hdb : (x == ("__debug__" : Str)) = false := by decide) (he : starEach (e :: es) X.env = (false, eval e X.env) :: starEach es X.env := by rfl) (hpl : (backTo pos (starEach es X.env)).any (·.1) = false := by rfl) :
    PE X (.Call (.Name x p) (e :: es) [] pos) (tCall sp [] E t) := by
  obtain ⟨f, fd, F, m, kp, b⟩ := c
  exact pe_call F (hr.mono hjk) hg m kp b .nil hx ha hdb he hpl
end Kb

namespace Kb
open PySem PySem.Spec PyProof.Rows L2 TL PySem.StrLaws Builtin.Str
/-! ### lists of signs: parts between one sign -/
def sp1 (c : Nat) : List Nat → List (List Nat)
  | [] => [[]]
  | x :: l => if x = c then [] :: sp1 c l else match sp1 c l with
    | [] => [[x]]
    | h :: t => (x :: h) :: t
theorem sp1_ne (c : Nat) : ∀ l, sp1 c l ≠ []
  | [] => by simp [sp1]
  | x :: l => by
    unfold sp1
    split
    · simp
    · cases h : sp1 c l <;> simp
theorem sp1_hit (c : Nat) (l : List Nat) : sp1 c (c :: l) = [] :: sp1 c l := by simp [sp1]
theorem sp1_miss {c x : Nat} (h : x ≠ c) {l p : List Nat} {r : List (List Nat)} (e : sp1 c l = p :: r) : sp1 c (x :: l) = (x :: p) :: r := by
  simp only [sp1, if_neg h, e]
theorem sp1_cons (c : Nat) (l : List Nat) : ∃ p r, sp1 c l = p :: r := by
  cases h : sp1 c l with
  | nil => exact absurd h (sp1_ne c l)
  | cons p r => exact ⟨p, r, rfl⟩
theorem spl_sp1 (c : Nat) : ∀ (l acc : List Nat) (p : List Nat) (r : List (List Nat)), sp1 c l = p :: r → spl [c] 0 acc l = (acc ++ p) :: r
  | [], acc, p, r, h => by
    simp only [sp1, List.cons.injEq] at h
    obtain ⟨rfl, rfl⟩ := h
    simp [spl_nil]
  | x :: l, acc, p, r, h => by
    obtain ⟨q, s, e⟩ := sp1_cons c l
    by_cases hx : x = c
    · subst hx
      rw [sp1_hit] at h
      simp only [List.cons.injEq] at h
      obtain ⟨rfl, rfl⟩ := h
      rw [spl_hit (by simp [pre])]
      rw [show [x].length - 1 = 0 from rfl, spl_sp1 x l [] q s e, e]
      simp
    · rw [sp1_miss hx e] at h
      simp only [List.cons.injEq] at h
      obtain ⟨rfl, rfl⟩ := h
      rw [spl_miss (by simp [pre, hx]), spl_sp1 c l _ q s e]
      simp
theorem split_sp1 (x : Str) {c : Nat} (hc : c < 256) : (Txt.split x ⟨#[c]⟩).map tl = sp1 c (tl x) := by
  rw [split_spl x ⟨#[c]⟩ (by simp [tl]) (kind_ok (by simp [hc]))]
  obtain ⟨p, r, e⟩ := sp1_cons c (tl x)
  show spl [c] 0 [] (tl x) = _
  rw [spl_sp1 c _ [] p r e, e]
  rfl
theorem joinL_sp1 (c : Nat) : ∀ l, joinL [c] (sp1 c l) = l
  | [] => rfl
  | x :: l => by
    obtain ⟨q, s, e⟩ := sp1_cons c l
    have ih := joinL_sp1 c l
    by_cases hx : x = c
    · subst hx
      rw [sp1_hit, e]
      rw [e] at ih
      show [] ++ ([x] ++ joinL [x] (q :: s)) = _
      rw [ih]; rfl
    · rw [sp1_miss hx e]
      rw [e] at ih
      cases s with
      | nil => exact congrArg (x :: ·) ih
      | cons a b => exact congrArg (x :: ·) ih
theorem sp1_free (c : Nat) : ∀ l, ∀ p ∈ sp1 c l, c ∉ p
  | [], p, h => by simp only [sp1, List.mem_singleton] at h; subst h; simp
  | x :: l, p, h => by
    obtain ⟨q, s, e⟩ := sp1_cons c l
    have ih := sp1_free c l
    by_cases hx : x = c
    · subst hx
      rw [sp1_hit] at h
      rcases List.mem_cons.mp h with rfl | h
      · simp
      · exact ih p h
    · rw [sp1_miss hx e] at h
      rw [e] at ih
      rcases List.mem_cons.mp h with rfl | h
      · intro hm
        rcases List.mem_cons.mp hm with r | r
        · exact hx r.symm
        · exact ih q (List.mem_cons_self ..) r
      · exact ih p (List.mem_cons_of_mem _ h)
theorem sp1_of_free {c : Nat} : ∀ {l : List Nat}, c ∉ l → sp1 c l = [l]
  | [], _ => rfl
  | x :: l, h => by
    have hx : x ≠ c := fun e => h (e ▸ List.mem_cons_self ..)
    rw [sp1_miss hx (sp1_of_free fun m => h (List.mem_cons_of_mem _ m))]
theorem sp1_app (c : Nat) : ∀ (a b : List Nat), sp1 c (a ++ c :: b) = sp1 c a ++ sp1 c b
  | [], b => by rw [List.nil_append, sp1_hit]; rfl
  | x :: a, b => by
    obtain ⟨q, s, e⟩ := sp1_cons c a
    have ih := sp1_app c a b
    rw [e] at ih
    by_cases hx : x = c
    · subst hx
      rw [List.cons_append, sp1_hit, sp1_hit, ih, e]; rfl
    · rw [List.cons_append, sp1_miss hx ih, sp1_miss hx e]; rfl
/-- r and the sign stand at the head exactly if r's parts are the first ones, with one more behind -/
theorem sp1_prefix (c : Nat) : ∀ (r p : List Nat), ((sp1 c r).length < (sp1 c p).length ∧ (sp1 c p).take (sp1 c r).length = sp1 c r) ↔ (r ++ [c]) <+: p
  | [], p => by
    show (1 < _ ∧ List.take 1 _ = [[]]) ↔ [c] <+: p
    cases p with
    | nil => simp [sp1]
    | cons x p =>
      obtain ⟨q, s, e⟩ := sp1_cons c p
      by_cases hx : x = c
      · subst hx
        simp [sp1_hit, e]
      · rw [sp1_miss hx e]
        simp [List.cons_prefix_cons, Ne.symm hx]
  | y :: r, p => by
    obtain ⟨q, s, e⟩ := sp1_cons c r
    cases p with
    | nil =>
      have h1 : 0 < (sp1 c (y :: r)).length := List.length_pos_iff.mpr (sp1_ne c _)
      constructor
      · rintro ⟨h, _⟩
        simp only [sp1, List.length_cons, List.length_nil] at h
        exact absurd h (by have : (sp1 c (y :: r)).length = (sp1 c (y :: r)).length := rfl; simp only [sp1] at h1; omega)
      · intro h; simp at h
    | cons x p =>
      obtain ⟨q', s', e'⟩ := sp1_cons c p
      have ih := sp1_prefix c r p
      rw [List.cons_append, List.cons_prefix_cons]
      by_cases hy : y = c
      · subst hy
        rw [sp1_hit]
        by_cases hx : x = y
        · subst hx
          rw [sp1_hit]
          simp only [List.length_cons, List.take_succ_cons, List.cons.injEq, true_and, Nat.add_lt_add_iff_right]
          exact ih
        · rw [sp1_miss hx e']
          simp [Ne.symm hx]
      · rw [sp1_miss hy e]
        by_cases hx : x = c
        · subst hx
          rw [sp1_hit]
          simp [Ne.symm hy, hy]
        · rw [sp1_miss hx e']
          rw [e, e'] at ih
          simp only [List.length_cons, List.take_succ_cons, List.cons.injEq] at ih ⊢
          constructor
          · rintro ⟨h1, ⟨h2, h3⟩, h4⟩
            exact ⟨h2.symm, ih.mp ⟨h1, h3, h4⟩⟩
          · rintro ⟨h2, h⟩
            obtain ⟨h1, h3, h4⟩ := ih.mpr h
            exact ⟨h1, ⟨h2.symm, h3⟩, h4⟩
/-- the last part -/
theorem last_cut {c : Nat} : ∀ {l : List Nat}, c ∈ l → ∃ a b, l = a ++ c :: b ∧ c ∉ b
  | [], h => by cases h
  | x :: l, h => by
    by_cases hm : c ∈ l
    · obtain ⟨a, b, e, hb⟩ := last_cut hm
      exact ⟨x :: a, b, by rw [e]; rfl, hb⟩
    · have hx : c = x := by
        rcases List.mem_cons.mp h with e | e
        · exact e
        · exact absurd e hm
      exact ⟨[], l, by rw [hx]; rfl, hm⟩
/-! ### the model's words as list functions -/
theorem startswith_tl (x y : Str) : Txt.startswith x y = (tl y).isPrefixOf (tl x) := by
  unfold Txt.startswith
  rw [subAt_eq, List.drop_zero, len_tl, len_tl, Nat.zero_add]
  rw [Bool.eq_iff_iff]
  simp only [Bool.and_eq_true, decide_eq_true_eq, beq_iff_eq, List.isPrefixOf_iff_prefix]
  constructor
  · rintro ⟨_, h⟩
    have h : List.take (tl y).length (tl x) = tl y := h
    exact h ▸ List.take_prefix _ _
  · intro h
    exact ⟨h.length_le, (List.prefix_iff_eq_take.mp h).symm⟩
theorem endswith_tl (x y : Str) : Txt.endswith x y = (tl y).isSuffixOf (tl x) := by
  unfold Txt.endswith
  rw [subAt_eq, len_tl, len_tl, Nat.zero_add]
  rw [Bool.eq_iff_iff]
  simp only [Bool.and_eq_true, decide_eq_true_eq, beq_iff_eq, List.isSuffixOf_iff_suffix]
  constructor
  · rintro ⟨h1, h⟩
    have h : List.take (tl y).length (List.drop ((tl x).length - (tl y).length) (tl x)) = tl y := h
    rw [List.take_of_length_le (by rw [List.length_drop]; omega)] at h
    exact h ▸ List.drop_suffix _ _
  · intro h
    have hl := h.length_le
    refine ⟨hl, ?_⟩
    show List.take (tl y).length (List.drop ((tl x).length - (tl y).length) (tl x)) = tl y
    rw [List.take_of_length_le (by rw [List.length_drop]; omega)]
    exact (List.suffix_iff_eq_drop.mp h).symm
theorem rpartition_hit {x : Str} {c : Nat} {a b : List Nat} (e : tl x = a ++ c :: b) (hb : c ∉ b) : tl (Txt.rpartition x ⟨#[c]⟩).1 = a := by
  have hy : tl (⟨#[c]⟩ : Str) ≠ [] := by simp [tl]
  have at' : ∀ i, At x ⟨#[c]⟩ x.length i ↔ (tl x)[i]? = some c := fun i => by
    rw [at_iff hy]
    show (((tl x).drop i).take 1 == [c]) = true ↔ _
    exact take1_drop
  have hit : At x ⟨#[c]⟩ x.length a.length := (at' _).mpr (by rw [e]; simp)
  unfold Txt.rpartition
  rcases last_spec x ⟨#[c]⟩ with ⟨e1, h⟩ | ⟨i, e1, h1, h2⟩
  · exact absurd hit (h _)
  · rw [e1]
    show tl (strSub x 0 i) = a
    have hi : i = a.length := by
      rcases Nat.lt_trichotomy i a.length with q | q | q
      · exact absurd hit (h2 _ q)
      · exact q
      · have g := (at' i).mp h1
        rw [e, List.getElem?_append_right (by omega)] at g
        obtain ⟨k, hk⟩ : ∃ k, i - a.length = k + 1 := ⟨i - a.length - 1, by omega⟩
        rw [hk, List.getElem?_cons_succ] at g
        exact absurd (List.mem_of_getElem? g) hb
    rw [tl_strSub, hi, e]
    simp
theorem tl_S (l : List Nat) : tl ⟨l.toArray⟩ = l := rfl
theorem str_eq_iff {x y : Str} : x = y ↔ tl x = tl y := ⟨fun e => by rw [e], ext_tl⟩
end Kb
namespace Kb
open PySem PySem.Spec PyProof.Rows L2 TL PySem.StrLaws Builtin.Str
theorem cutS_to (z : Str) {i : Int} (h : 0 ≤ i) : tl (cutS z none (some i)) = (tl z).take i.toNat := by
  obtain ⟨k, rfl⟩ : ∃ k : Nat, i = (k : Int) := ⟨i.toNat, by omega⟩
  show ((tl z).drop (HT.sIx z.length 0 none)).take (HT.sIx z.length z.length (some (k : Int)) - HT.sIx z.length 0 none) = _
  rw [HT.sIx_none, HT.sIx_nat, List.drop_zero, Nat.sub_zero, Int.toNat_natCast, len_tl, ← List.take_take, List.take_of_length_le (Nat.le_refl _)]
end Kb
namespace Kb
open PySem PySem.Spec PyProof.Rows L2 TL PySem.StrLaws Builtin.Str
theorem cutV_to (xs : List V) {i : Int} (h : 0 ≤ i) : cutV xs none (some i) = xs.take i.toNat := by
  obtain ⟨k, rfl⟩ : ∃ k : Nat, i = (k : Int) := ⟨i.toNat, by omega⟩
  show (xs.drop (HT.sIx xs.length 0 none)).take (HT.sIx xs.length xs.length (some (k : Int)) - HT.sIx xs.length 0 none) = _
  rw [HT.sIx_none, HT.sIx_nat, List.drop_zero, Nat.sub_zero, Int.toNat_natCast, ← List.take_take, List.take_of_length_le (Nat.le_refl _)]
theorem cutV_m1 (xs : List V) : cutV xs none (some (-1)) = xs.dropLast := by
  show (xs.drop (HT.sIx xs.length 0 none)).take (HT.sIx xs.length xs.length (some (-1)) - HT.sIx xs.length 0 none) = _
  rw [HT.sIx_none, List.drop_zero, Nat.sub_zero, List.dropLast_eq_take]
  have e : HT.sIx xs.length xs.length (some (-1)) = xs.length - 1 := by
    show (if (-1 : Int) < 0 then ((-1 : Int) + (xs.length : Int)).toNat else min (-1 : Int).toNat xs.length) = _
    rw [if_pos (by decide)]
    omega
  rw [e]
theorem sp1_mem {c s : Nat} : ∀ {l p : List Nat}, p ∈ sp1 c l → s ∈ p → s ∈ l
  | [], p, h, hs => by simp only [sp1, List.mem_singleton] at h; subst h; exact hs
  | x :: l, p, h, hs => by
    obtain ⟨q, r, e⟩ := sp1_cons c l
    have ih := fun p => sp1_mem (c := c) (s := s) (l := l) (p := p)
    by_cases hx : x = c
    · subst hx
      rw [sp1_hit] at h
      rcases List.mem_cons.mp h with rfl | h
      · cases hs
      · exact List.mem_cons_of_mem _ (ih p h hs)
    · rw [sp1_miss hx e] at h
      rw [e] at ih
      rcases List.mem_cons.mp h with rfl | h
      · rcases List.mem_cons.mp hs with rfl | hs
        · exact List.mem_cons_self ..
        · exact List.mem_cons_of_mem _ (ih q (List.mem_cons_self ..) hs)
      · exact List.mem_cons_of_mem _ (ih p (List.mem_cons_of_mem _ h) hs)
theorem split_mem {x p : Str} {c : Nat} (hc : c < 256) (h : p ∈ Txt.split x ⟨#[c]⟩) : ∀ s ∈ tl p, s ∈ tl x := fun s hs =>
  sp1_mem (c := c) (by rw [← split_sp1 x hc]; exact List.mem_map.mpr ⟨p, h, rfl⟩) hs
theorem split_strOk {x : Str} {c : Nat} (hc : c < 256) (hx : ∀ s ∈ tl x, s < 1114112) : ∀ p ∈ Txt.split x ⟨#[c]⟩, PyData.canLay0 (.str p) = true := fun p hp => by
  rw [PyData.canLay0]
  show p.cps.all _ = true
  rw [Array.all_eq_true_iff_forall_mem]
  intro s hs
  exact decide_eq_true (hx s (split_mem hc hp s (Array.mem_toList_iff.mpr hs)))
theorem prefix_snoc {q p : List Nat} {c : Nat} : (q ++ [c]) <+: p ↔ q <+: p ∧ p[q.length]? = some c := by
  constructor
  · rintro ⟨r, e⟩
    refine ⟨⟨c :: r, by rw [← e]; simp⟩, ?_⟩
    rw [← e]; simp
  · rintro ⟨⟨r, e⟩, h⟩
    rw [← e, List.getElem?_append_right (Nat.le_refl _), Nat.sub_self] at h
    cases r with
    | nil => cases h
    | cons a r =>
      cases h
      exact ⟨r, by rw [← e]; simp⟩
theorem snoc_of_ne {l : List Nat} (h : l ≠ []) : ∃ r c, l = r ++ [c] := ⟨l.dropLast, l.getLast h, (List.dropLast_concat_getLast h).symm⟩
theorem sp1_length {c : Nat} : ∀ l : List Nat, (sp1 c l).length ≤ l.length + 1
  | [] => by simp [sp1]
  | x :: l => by
    obtain ⟨q, r, e⟩ := sp1_cons c l
    have ih := sp1_length (c := c) l
    by_cases hx : x = c
    · subst hx; rw [sp1_hit]; simp; omega
    · rw [sp1_miss hx e]; rw [e] at ih; simp at ih ⊢; omega
theorem split_length (x : Str) {c : Nat} (hc : c < 256) : (Txt.split x ⟨#[c]⟩).length ≤ x.length + 1 := by
  have := sp1_length (c := c) (tl x)
  rw [← split_sp1 x hc, List.length_map] at this
  rw [len_tl]; exact this
end Kb
namespace Kb
open PySem PySem.Spec PyProof.Rows L2 TL PySem.StrLaws Builtin.Str
theorem sp1_mem_len {c : Nat} : ∀ {l p : List Nat}, p ∈ sp1 c l → p.length ≤ l.length
  | [], p, h => by simp only [sp1, List.mem_singleton] at h; subst h; simp
  | x :: l, p, h => by
    obtain ⟨q, r, e⟩ := sp1_cons c l
    have ih := fun p => sp1_mem_len (c := c) (l := l) (p := p)
    by_cases hx : x = c
    · subst hx
      rw [sp1_hit] at h
      rcases List.mem_cons.mp h with rfl | h
      · simp
      · have := ih p h; simp; omega
    · rw [sp1_miss hx e] at h
      rw [e] at ih
      rcases List.mem_cons.mp h with rfl | h
      · have := ih q (List.mem_cons_self ..); simp; omega
      · have := ih p (List.mem_cons_of_mem _ h); simp; omega
theorem split_mem_len {x p : Str} {c : Nat} (hc : c < 256) (h : p ∈ Txt.split x ⟨#[c]⟩) : p.length ≤ x.length := by
  rw [len_tl, len_tl]
  exact sp1_mem_len (c := c) (by rw [← split_sp1 x hc]; exact List.mem_map.mpr ⟨p, h, rfl⟩)
theorem joinL_nil {c : Nat} : ∀ {L : List (List Nat)}, joinL [c] L = [] → L = [] ∨ L = [[]]
  | [], _ => .inl rfl
  | [p], h => .inr (by rw [show p = [] from h])
  | p :: q :: r, h => by
    have : p ++ ([c] ++ joinL [c] (q :: r)) = [] := h
    simp at this
theorem join_tl (y : Str) (parts : List Str) : tl (Txt.join y parts) = joinL (tl y) (parts.map tl) := by rw [join_eq, tl_join]
end Kb
namespace Kb
open PySem PySem.Spec PyProof.Rows L2 TL PySem.StrLaws Builtin.Str
theorem cutV_from (xs : List V) {i : Int} (h : 0 ≤ i) : cutV xs (some i) none = xs.drop i.toNat := by
  obtain ⟨k, rfl⟩ : ∃ k : Nat, i = (k : Int) := ⟨i.toNat, by omega⟩
  show (xs.drop (HT.sIx xs.length 0 (some (k : Int)))).take (HT.sIx xs.length xs.length none - HT.sIx xs.length 0 (some (k : Int))) = _
  rw [HT.sIx_none, HT.sIx_nat, Int.toNat_natCast]
  rcases Nat.le_total k xs.length with q | q
  · rw [Nat.min_eq_left q, List.take_of_length_le (by rw [List.length_drop]; omega)]
  · rw [Nat.min_eq_right q, List.drop_length, List.drop_eq_nil_of_le q, List.take_nil]
end Kb

namespace Kb
open PySem PySem.Spec PyProof.Rows L2
section
variable {X : Cx}
theorem pe_gc {x : Str} {pos : Pos} {v : V} (hg : Gl X x) (h : ∃ u, X.mg x = some u ∧ RelV v u) (hd : (x == ("__debug__" : Str)) = false := by decide) : PE X (.Name x pos) (tC v) := by
  obtain ⟨u, hm, r⟩ := h
  exact pe_glob hg hm r hd
theorem mt_rpartition : MtR X "str.rpartition" (fun x xs H Q => ∃ a b, x = .str a ∧ xs = [.str b] ∧ (b.length == 0) = false ∧ a.length ≤ sizeLine ∧
    ∀ p, H p = none → Q (.ref p) (upd H p (.tup [.str (Txt.rpartition a b).1, .str (Txt.rpartition a b).2.1, .str (Txt.rpartition a b).2.2]))) := by
  intro pins s σ H x xs v us Q I rx rs h
  obtain ⟨a, b, rfl, rfl, hb, hz, h⟩ := h
  obtain ⟨t, rfl⟩ := rx
  cases rs with
  | cons r1 rs =>
    cases rs
    obtain ⟨u, rfl⟩ := r1
    refine call_meets F.slot_str_rpartition (typeIs_str _ _ _) F.entry_str_rpartition (F.args_str_rpartition_2 _ _) (meets_str_rpartition a b t u hb hz) ?_
    unfold Txt.rpartition at h
    revert h
    cases Builtin.Str.lastOccurrence a b 0 a.length with
    | none => intro h; exact laid_parts I h
    | some i => intro h; exact laid_parts I h
end
/-! ### frames -/
/-- all that was tracked is as it was, but for d -/
def Keep (d : Addr) (H H' : Hp) : Prop := ∀ b o, H b = some o → b ≠ d → H' b = some o
theorem Keep.refl {d : Addr} {H : Hp} : Keep d H H := fun _ _ h _ => h
theorem Keep.trans {d : Addr} {H H1 H2 : Hp} (a : Keep d H H1) (b : Keep d H1 H2) : Keep d H H2 := fun c o h n => b c o (a c o h n) n
theorem Same.keep {d : Addr} {H H' : Hp} (a : Same H H') : Keep d H H' := fun c o h _ => a c o h
theorem Same.new {H : Hp} {p : Addr} {o : HO} (h : H p = none) : Same H (upd H p o) := fun b u e => by
  rw [upd_ne (ne_of_none e h)]
  exact e
theorem Keep.upd {d : Addr} {H H' : Hp} {o : HO} (a : Keep d H H') : Keep d H (upd H' d o) := fun c u h n => by
  rw [upd_ne n]
  exact a c u h n
theorem Keep.same {d : Addr} {H H1 H2 : Hp} (a : Keep d H H1) (b : Same H1 H2) : Keep d H H2 := fun c o h n => b c o (a c o h n)
theorem Same.then {d : Addr} {H H1 H2 : Hp} (a : Same H H1) (b : Keep d H1 H2) : Keep d H H2 := fun c o h n => b c o (a c o h) n
theorem Keep.seqL {K : PySem.W.Frag} {d a : Addr} {H H' : Hp} {xs : List V} (k : Keep d H H') (n : a ≠ d) (h : SqL K H a xs) : SqL K H' a xs := by
  rcases h with (h | ⟨o, h⟩) | h
  · exact .inl (.inl (k _ _ h n))
  · exact .inl (.inr ⟨o, k _ _ h n⟩)
  · exact .inr h
/-- an object that is new behind d's own changes -/
theorem Keep.fresh {d : Addr} {H H' : Hp} {l : Addr} (k : Keep d H H') (hd : H d = none) (h : H' l = none) : H l = none := by
  cases q : H l with
  | none => rfl
  | some o =>
    have : l ≠ d := fun e => by rw [e, hd] at q; cases q
    rw [k l o q this] at h
    cases h
/-- what is new since H stays new in Same's way -/
theorem Keep.toSame {d : Addr} {H H' : Hp} (k : Keep d H H') (hd : H d = none) : Same H H' := fun b o h => k b o h (ne_of_none h hd)
/-! ### a menu at an index in bounds -/
theorem menu {xs : List V} {i : Int} (h0 : 0 ≤ i) (h1 : i < (xs.length : Int)) : ∃ v, v ∈ xs ∧ atI xs i = some v := by
  obtain ⟨n, rfl⟩ : ∃ n : Nat, i = (n : Int) := ⟨i.toNat, by omega⟩
  have hn : n < xs.length := by omega
  exact ⟨xs[n], List.getElem_mem hn, atI_nat (List.getElem?_eq_getElem hn)⟩
theorem iteB {b : Bool} {A B : Prop} (h1 : b = true → A) (h2 : b = false → B) : if b = true then A else B := by
  cases b
  · rw [if_neg Bool.false_ne_true]; exact h2 rfl
  · rw [if_pos rfl]; exact h1 rfl
/-! ### the draw -/
def kLeft : Key := Sum.inr "left"
def kCell : Key := Sum.inr "cell"
def kTurns : Key := Sum.inr "turns"
def dkv (l c t : Int) : List (Key × V) := [(Sum.inr "left", .int l), (Sum.inr "cell", .int c), (Sum.inr "turns", .int t)]
theorem kne1 : ¬ (("left" : Str) = "cell") := by decide +kernel
theorem kne2 : ¬ (("left" : Str) = "turns") := by decide +kernel
theorem kne3 : ¬ (("cell" : Str) = "turns") := by decide +kernel
theorem dkv_left (l c t : Int) : valV (dkv l c t) (Sum.inr "left" : Key) = some (.int l) := by
  simp [valV, dkv]
theorem dkv_cell (l c t : Int) : valV (dkv l c t) (Sum.inr "cell" : Key) = some (.int c) := by
  simp [valV, dkv, kne1]
theorem dkv_turns (l c t : Int) : valV (dkv l c t) (Sum.inr "turns" : Key) = some (.int t) := by
  simp [valV, dkv, kne2, kne3]
theorem dkv_putL (l c t x : Int) : putK (dkv l c t) (Sum.inr "left" : Key) (.int x) = dkv x c t := by
  simp [putK, dkv, Ne.symm kne1, Ne.symm kne2]
theorem dkv_putT (l c t x : Int) : putK (dkv l c t) (Sum.inr "turns" : Key) (.int x) = dkv l c x := by
  simp [putK, dkv, kne2, kne3]
def DrawAt (H : Hp) (d : Addr) (n : Nat) : Prop := ∃ l c t : Int, H d = some (.dK (dkv l c t)) ∧ 0 ≤ l ∧ 0 ≤ t ∧ t + 4 * (n : Int) ≤ 1000000000
theorem DrawAt.less {H : Hp} {d : Addr} {n m : Nat} (h : DrawAt H d n) (e : m ≤ n) : DrawAt H d m := by
  obtain ⟨l, c, t, h1, h2, h3, h4⟩ := h
  exact ⟨l, c, t, h1, h2, h3, by omega⟩
theorem DrawAt.same {H H' : Hp} {d : Addr} {n : Nat} (h : DrawAt H d n) (s : Same H H') : DrawAt H' d n := by
  obtain ⟨l, c, t, h1, h2⟩ := h
  exact ⟨l, c, t, s _ _ h1, h2⟩
theorem DrawAt.keep {H H' : Hp} {d e : Addr} {n : Nat} (h : DrawAt H d n) (s : Keep e H H') (x : d ≠ e) : DrawAt H' d n := by
  obtain ⟨l, c, t, h1, h2⟩ := h
  exact ⟨l, c, t, s _ _ h1 x, h2⟩
end Kb
namespace Kb
open PySem PySem.Spec PyProof.Rows L2
theorem dget_left {H : Hp} {d : Addr} {l c t : Int} (h : H d = some (.dK (dkv l c t))) : DGet H d (.str "left") (some (.int l)) := by
  have e := DGet.k (k := (Sum.inr "left" : Key)) h
  rw [dkv_left] at e
  exact e
theorem dget_cell {H : Hp} {d : Addr} {l c t : Int} (h : H d = some (.dK (dkv l c t))) : DGet H d (.str "cell") (some (.int c)) := by
  have e := DGet.k (k := (Sum.inr "cell" : Key)) h
  rw [dkv_cell] at e
  exact e
theorem dget_turns {H : Hp} {d : Addr} {l c t : Int} (h : H d = some (.dK (dkv l c t))) : DGet H d (.str "turns") (some (.int t)) := by
  have e := DGet.k (k := (Sum.inr "turns" : Key)) h
  rw [dkv_turns] at e
  exact e
theorem dput_left {H : Hp} {d : Addr} {l c t : Int} (x : Int) (h : H d = some (.dK (dkv l c t))) : DPut H d (.str "left") (.int x) (upd H d (.dK (dkv x c t))) := by
  have e := DPut.k (k := (Sum.inr "left" : Key)) (v := .int x) h (Nat.lt_of_lt_of_le (by show 3 < 10; decide) (by decide))
  rw [dkv_putL] at e
  exact e
theorem dput_turns {H : Hp} {d : Addr} {l c t : Int} (x : Int) (h : H d = some (.dK (dkv l c t))) : DPut H d (.str "turns") (.int x) (upd H d (.dK (dkv l c x))) := by
  have e := DPut.k (k := (Sum.inr "turns" : Key)) (v := .int x) h (Nat.lt_of_lt_of_le (by show 3 < 10; decide) (by decide))
  rw [dkv_putT] at e
  exact e
end Kb
namespace Kb
open PySem PySem.Spec PyProof.Rows L2 TL
section
variable {K : PySem.W.Frag} {a : Addr} {xs : List V} {g : TG} {tb : TS} {D : Ends} {σ : L2.St} {H : Hp}
theorem for_str {z : Str} (Pv : Nat → L2.St → Hp → Prop) (h0 : Pv 0 σ H)
    (hs : ∀ i c σ H, (tl z)[i]? = some c → Pv i σ H → g (.str ⟨#[c]⟩) σ H fun σ2 H2 => tb { D with nx := Pv (i + 1), ct := Pv (i + 1), bk := D.nx } σ2 H2) (hd : ∀ σ H, Pv (tl z).length σ H → D.nx σ H) :
    ∃ W : Nat → Nat → L2.St → Hp → Prop, (∃ m, W 0 m σ H) ∧ ∀ i m σ H, W i m σ H →
      ((Its z).stop i H ∧ D.nx σ H) ∨ ((Its z).go i H ∧ ∃ N : L2.St → Hp → Prop, (∀ σ' H', N σ' H' → ∃ m', m' < m ∧ W (i + 1) m' σ' H') ∧ ∀ x H', (Its z).yld i H x H' → g x σ H' fun σ2 H2 => tb { D with nx := N, ct := N, bk := D.nx } σ2 H2) := by
  refine for_it walk_str Pv h0 (fun _ _ _ _ _ => trivial) (fun i x σ H H' hi p y => ?_) (fun σ H p => hd σ H (by rw [show (tl z).length = z.cps.size by simp [tl]]; exact p))
  obtain ⟨rfl, c, hc, rfl⟩ := y
  exact hs i c σ _ (by rw [← hc]; simp [tl]) p
theorem for_enum (Pv : Nat → L2.St → Hp → Prop) (h0 : Pv 0 σ H) (hG : ∀ i σ H, i ≤ xs.length → Pv i σ H → SqL K H a xs)
    (hs : ∀ i x T σ H, xs[i]? = some x → Pv i σ H → H T = none → g (.ref T) σ (upd H T (.tup [.int (i : Nat), x])) fun σ2 H2 => tb { D with nx := Pv (i + 1), ct := Pv (i + 1), bk := D.nx } σ2 H2) (hd : ∀ σ H, Pv xs.length σ H → D.nx σ H) :
    ∃ W : Nat → Nat → L2.St → Hp → Prop, (∃ m, W 0 m σ H) ∧ ∀ i m σ H, W i m σ H →
      ((Ite K a).stop i H ∧ D.nx σ H) ∨ ((Ite K a).go i H ∧ ∃ N : L2.St → Hp → Prop, (∀ σ' H', N σ' H' → ∃ m', m' < m ∧ W (i + 1) m' σ' H') ∧ ∀ x H', (Ite K a).yld i H x H' → g x σ H' fun σ2 H2 => tb { D with nx := N, ct := N, bk := D.nx } σ2 H2) := by
  refine for_it walk_enum Pv h0 hG (fun i x σ H H' hi p y => ?_) hd
  obtain ⟨T, x, y, rfl, hT, rfl, h1, h2⟩ := y
  cases h1
  exact hs i y T σ H h2 p hT
end
end Kb
namespace Kb
open PySem PySem.Spec PyProof.Rows L2 TL
/-! ### == of lists of texts -/
theorem dpAll_strs {K : PySem.W.Frag} {H : Hp} : ∀ ys : List Str, DpAll K H (ys.map V.str) (ys.map PyData.str)
  | [] => .nil
  | y :: ys => .cons (.str y) (dpAll_strs ys)
theorem dp_strs {K : PySem.W.Frag} {H : Hp} {p : Addr} {ys : List Str} (h : SqL K H p (ys.map V.str)) : Dp K H (.ref p) (.list (ys.map PyData.str)) := .lst h (dpAll_strs ys)
theorem dp_strsT {K : PySem.W.Frag} {H : Hp} {p : Addr} {ys : List Str} (h : SqT K H p (ys.map V.str)) : Dp K H (.ref p) (.tuple (ys.map PyData.str)) := .tup h (dpAll_strs ys)
theorem eqvAll_strs : ∀ ys zs : List Str, PyData.eqvAll (ys.map PyData.str) (zs.map PyData.str) = decide (ys = zs)
  | [], [] => by simp [PyData.eqvAll]
  | [], z :: zs => by simp [PyData.eqvAll]
  | y :: ys, [] => by simp [PyData.eqvAll]
  | y :: ys, z :: zs => by
    rw [List.map_cons, List.map_cons, PyData.eqvAll, eqvAll_strs ys zs]
    rw [show PyData.eqv (.str y) (.str z) = (y == z) by simp [PyData.eqv]]
    rw [Bool.eq_iff_iff]
    simp
theorem canLay_strs : ∀ ys : List Str, (∀ y ∈ ys, PyData.canLay0 (.str y) = true) → PyData.canLayAll0 (ys.map PyData.str) = true
  | [], _ => by simp [PyData.canLayAll0]
  | y :: ys, h => by
    rw [List.map_cons, PyData.canLayAll0, h y (List.mem_cons_self ..), canLay_strs ys fun z hz => h z (List.mem_cons_of_mem _ hz)]; rfl
theorem depth_strs : ∀ ys : List Str, PyData.depthAll (ys.map PyData.str) = 0
  | [] => by simp [PyData.depthAll]
  | y :: ys => by
    rw [List.map_cons, PyData.depthAll, depth_strs ys]
    simp [PyData.depth]
theorem shaped_strs {ys : List Str} (h : ∀ y ∈ ys, PyData.canLay0 (.str y) = true) : SeqAt.shaped (.list (ys.map PyData.str)) = true := by
  unfold SeqAt.shaped
  rw [PyData.canLay0, canLay_strs ys h, PyData.depth, depth_strs]; rfl
end Kb
namespace Kb
open PySem PySem.Spec PyProof.Rows L2 TL
/-! ### rules with the written part named -/
def rLenQ (K : PySem.W.Frag) : List V → Hp → VK → Prop := fun xs H Q => ∃ p ys, xs = [.ref p] ∧ (SqL K H p ys ∨ SqT K H p ys) ∧ Q (.int ys.length) H
def rJoinQ (K : PySem.W.Frag) : V → List V → Hp → VK → Prop := fun x xs H Q => ∃ a p, ∃ ys : List Str, x = .str a ∧ xs = [.ref p] ∧ (SqL K H p (ys.map V.str) ∨ SqT K H p (ys.map V.str)) ∧ (ys.map (·.length)).sum + ys.length * a.length ≤ 16777216 ∧ Q (.str (Txt.join a ys)) H
end Kb
namespace Kb
open PySem PySem.Spec PyProof.Rows L2 TL
theorem DrawAt.upd {H : Hp} {d L : Addr} {n : Nat} {o : HO} (h : DrawAt H d n) (x : d ≠ L) : DrawAt (L2.upd H L o) d n := by
  obtain ⟨l, c, t, h1, h2⟩ := h
  exact ⟨l, c, t, by rw [upd_ne x]; exact h1, h2⟩
theorem DrawAt.ne {H : Hp} {d L : Addr} {n : Nat} (h : DrawAt H d n) (x : H L = none) : L ≠ d := fun e => by
  obtain ⟨_, _, _, q, _⟩ := h
  rw [e, q] at x; cases x
theorem Keep.updN {d L : Addr} {H H' : Hp} {o : HO} (k : Keep d H H') (h : H L = none) : Keep d H (L2.upd H' L o) := fun b q e n => by
  rw [upd_ne (ne_of_none e h)]
  exact k b q e n
end Kb
namespace Kb
open PySem PySem.Spec PyProof.Rows L2 TL
theorem all_at {p : Nat → Bool} {l : List Nat} {i : Nat} {c : Nat} (h : l[i]? = some c) : (l.take (i + 1)).all p = ((l.take i).all p && p c) := by
  rw [List.take_add_one, h, List.all_append]; simp
theorem allS_at {p : List Nat → Bool} {l : List Str} {i : Nat} {c : Str} (h : l[i]? = some c) : ((l.take (i + 1)).map tl).all p = (((l.take i).map tl).all p && p (tl c)) := by
  rw [List.take_add_one, h, List.map_append, List.all_append]; simp
theorem strAt {xs : List Str} {i : Nat} {v : V} (h : (xs.map V.str)[i]? = some v) : ∃ x, xs[i]? = some x ∧ v = .str x := by
  rw [List.getElem?_map] at h
  cases e : xs[i]? with
  | none => rw [e] at h; cases h
  | some x => rw [e] at h; exact ⟨x, rfl, (Option.some.inj h).symm⟩
/-- a text with f, or a value that is no text -/
def TxV (f : List Nat → Bool) (K : PySem.W.Frag) (H : Hp) (v : V) (b : Bool) : Prop :=
  (∃ x : Str, v = .str x ∧ x.length ≤ 1000000 ∧ b = f (tl x)) ∨ (∃ t : Value, TyX K H v t ∧ PySem.W.kitOne K t (.type "str") = some false ∧ b = false)
theorem kit_str (K : PySem.W.Frag) : PySem.W.kitOne K (.type "str") (.type "str") = some true := kit_ty (by decide +kernel)
theorem TxV.of {f : List Nat → Bool} {K : PySem.W.Frag} {H : Hp} {x : Str} (h : x.length ≤ 1000000) : TxV f K H (.str x) (f (tl x)) := .inl ⟨x, rfl, h, rfl⟩
end Kb

namespace Kb
open PySem PySem.Spec PyProof.Rows L2 TL
/-! ### paths as lists of signs -/
/-- a sign that a path may have -/
def psign (c : Nat) : Bool := decide (33 ≤ c) && decide (c ≤ 126) && (decide (c ≠ 59) && decide (c ≠ 63) && decide (c ≠ 35)) && decide (c ≠ 37)
def pathB (l : List Nat) : Bool := decide (l.length ≤ 200) && ([47].isPrefixOf l && l.all psign)
def pfB (p q : List Nat) : Bool := decide (p = q) || (q.isPrefixOf p && ([47].isSuffixOf q || p[q.length]? == some 47))
/-- all in front of the last slash, or a slash -/
def dflt (l : List Nat) : List Nat := if joinL [47] (sp1 47 l).dropLast = [] then [47] else joinL [47] (sp1 47 l).dropLast
theorem tl_slash : tl ("/" : Str) = [47] := by decide +kernel
theorem slash_eq : ("/" : Str) = ⟨#[47]⟩ := ext_tl tl_slash
theorem dflt_cut {l a b : List Nat} (e : l = a ++ 47 :: b) (hb : 47 ∉ b) : dflt l = if a = [] then [47] else a := by
  unfold dflt
  have : (sp1 47 l).dropLast = sp1 47 a := by
    rw [e, sp1_app, sp1_of_free hb, List.dropLast_concat]
  rw [this, joinL_sp1]
theorem pathB_len {x : Str} (h : pathB (tl x) = true) : x.length ≤ 200 := by
  unfold pathB at h
  rw [Bool.and_eq_true, decide_eq_true_eq] at h
  rw [len_tl]; exact h.1
theorem pathB_head {x : Str} (h : pathB (tl x) = true) : ∃ r, tl x = 47 :: r := by
  unfold pathB at h
  rw [Bool.and_eq_true, Bool.and_eq_true, List.isPrefixOf_iff_prefix] at h
  obtain ⟨r, e⟩ := h.2.1
  exact ⟨r, e.symm⟩
/-- the signs a, b, the dot and the slash -/
def sgn4 (z : Str) : Bool := (tl z).all fun c => c == 47 || c == 97 || c == 98 || c == 46
def PathQ (m : Nat) (x : Str) : Prop := (∃ r, tl x = 47 :: r) ∧ sgn4 x = true ∧ x.length ≤ m
theorem sgn4_app {x y : Str} (h1 : sgn4 x = true) (h2 : sgn4 y = true) : sgn4 (x ++ y) = true := by
  unfold sgn4 at *
  rw [tl_append, List.all_append, h1, h2]; rfl
theorem PathQ.app {m k : Nat} {x y : Str} (h : PathQ m x) (h2 : sgn4 y = true) (h3 : y.length ≤ k) : PathQ (m + k) (x ++ y) := by
  obtain ⟨⟨r, e⟩, h1, h4⟩ := h
  refine ⟨⟨r ++ tl y, by rw [tl_append, e]; rfl⟩, sgn4_app h1 h2, ?_⟩
  rw [Str.length_append]; omega
theorem PathQ.more {m k : Nat} {x : Str} (h : PathQ m x) (e : m ≤ k) : PathQ k x := ⟨h.1, h.2.1, Nat.le_trans h.2.2 e⟩
theorem PathQ.path {m : Nat} {x : Str} (h : PathQ m x) (e : m ≤ 200) : pathB (tl x) = true := by
  obtain ⟨⟨r, e1⟩, h2, h3⟩ := h
  unfold pathB
  rw [decide_eq_true (by rw [len_tl] at h3; omega), Bool.true_and]
  have a : [47].isPrefixOf (tl x) = true := List.isPrefixOf_iff_prefix.mpr ⟨r, e1.symm⟩
  rw [a, Bool.true_and, List.all_eq_true]
  intro s hs
  unfold sgn4 at h2
  rw [List.all_eq_true] at h2
  have := h2 s hs
  simp only [Bool.or_eq_true, beq_iff_eq] at this
  rcases this with ((rfl | rfl) | rfl) | rfl <;> decide
/-- the default path: a part of it -/
theorem dflt_cases {l r : List Nat} (e : l = 47 :: r) : ∃ a b, l = a ++ 47 :: b ∧ 47 ∉ b ∧ ((a = [] ∧ dflt l = [47]) ∨ (a ≠ [] ∧ dflt l = a)) := by
  obtain ⟨a, b, e2, hb⟩ := last_cut (c := 47) (l := l) (by rw [e]; exact List.mem_cons_self ..)
  refine ⟨a, b, e2, hb, ?_⟩
  by_cases ha : a = []
  · exact .inl ⟨ha, by rw [dflt_cut e2 hb, if_pos ha]⟩
  · exact .inr ⟨ha, by rw [dflt_cut e2 hb, if_neg ha]⟩
theorem dflt_head {l r : List Nat} (e : l = 47 :: r) : ∃ r2, dflt l = 47 :: r2 := by
  obtain ⟨a, b, e2, hb, (⟨ha, h⟩ | ⟨ha, h⟩)⟩ := dflt_cases e
  · exact ⟨[], h⟩
  · rw [h]
    obtain ⟨x, a2, rfl⟩ := List.exists_cons_of_ne_nil ha
    rw [e] at e2
    simp only [List.cons_append, List.cons.injEq] at e2
    exact ⟨a2, by rw [← e2.1]⟩
theorem dflt_sub {l r : List Nat} (e : l = 47 :: r) : (dflt l).length ≤ l.length ∧ ∀ c ∈ dflt l, c ∈ l := by
  obtain ⟨a, b, e2, hb, (⟨ha, h⟩ | ⟨ha, h⟩)⟩ := dflt_cases e
  · rw [h, e]
    exact ⟨by simp, fun c hc => by rw [List.mem_singleton.mp hc]; exact List.mem_cons_self ..⟩
  · rw [h, e2]
    exact ⟨by simp, fun c hc => List.mem_append_left _ hc⟩
theorem dflt_less {l r : List Nat} (e : l = 47 :: r) (h0 : l ≠ [47]) : (dflt l).length < l.length := by
  obtain ⟨a, b, e2, hb, (⟨ha, h⟩ | ⟨ha, h⟩)⟩ := dflt_cases e
  · rw [h, e2, ha]
    cases b with
    | nil => exact absurd (by rw [e2, ha]; rfl) h0
    | cons x b => simp
  · rw [h, e2]; simp
theorem PathQ.dflt {m : Nat} {x y : Str} (h : PathQ m x) (e : tl y = dflt (tl x)) : PathQ m y := by
  obtain ⟨⟨r, e1⟩, h2, h3⟩ := h
  obtain ⟨h4, h5⟩ := dflt_sub e1
  obtain ⟨r2, e2⟩ := dflt_head e1
  refine ⟨⟨r2, by rw [e, e2]⟩, ?_, ?_⟩
  · unfold sgn4 at *
    rw [List.all_eq_true] at *
    intro c hc
    rw [e] at hc
    exact h2 c (h5 c hc)
  · rw [len_tl, e]
    rw [len_tl] at h3
    omega
/-! ### to fit is an order -/
theorem pf_iff {p q : List Nat} : pfB p q = true ↔ p = q ∨ (q <+: p ∧ ((∃ r, q = r ++ [47]) ∨ p[q.length]? = some 47)) := by
  unfold pfB
  rw [Bool.or_eq_true, Bool.and_eq_true, Bool.or_eq_true, decide_eq_true_eq, List.isPrefixOf_iff_prefix, List.isSuffixOf_iff_suffix, beq_iff_eq]
  constructor
  · rintro (h | ⟨h, (⟨r, e⟩ | h2)⟩)
    · exact .inl h
    · exact .inr ⟨h, .inl ⟨r, e.symm⟩⟩
    · exact .inr ⟨h, .inr h2⟩
  · rintro (h | ⟨h, (⟨r, e⟩ | h2)⟩)
    · exact .inl h
    · exact .inr ⟨h, .inl ⟨r, e.symm⟩⟩
    · exact .inr ⟨h, .inr h2⟩
theorem pf_self (p : List Nat) : pfB p p = true := pf_iff.mpr (.inl rfl)
theorem pf_slash {p r : List Nat} (e : p = 47 :: r) : pfB p [47] = true := pf_iff.mpr (.inr ⟨⟨r, e.symm⟩, .inl ⟨[], rfl⟩⟩)
theorem pf_pre {p q : List Nat} (h : pfB p q = true) : q <+: p := by
  rcases pf_iff.mp h with rfl | h
  · exact List.prefix_refl _
  · exact h.1
theorem pf_anti {p q : List Nat} (h : pfB p q = true) (k : pfB q p = true) : p = q := by
  have a := pf_pre h
  have b := pf_pre k
  exact b.eq_of_length (Nat.le_antisymm b.length_le a.length_le)
theorem pre_at {p q : List Nat} (h : q <+: p) {i : Nat} (hi : i < q.length) : p[i]? = q[i]? := by
  obtain ⟨r, rfl⟩ := h
  rw [List.getElem?_append_left hi]
theorem pf_trans {p q r : List Nat} (h : pfB p q = true) (k : pfB q r = true) : pfB p r = true := by
  rcases pf_iff.mp k with rfl | ⟨k1, k2⟩
  · exact h
  have a := pf_pre h
  refine pf_iff.mpr (.inr ⟨k1.trans a, ?_⟩)
  rcases k2 with k2 | k2
  · exact .inl k2
  · have : r.length < q.length := by
      have := (List.getElem?_eq_some_iff.mp k2).1
      exact this
    exact .inr (by rw [pre_at a this]; exact k2)
theorem pf_comp {p q r : List Nat} (h : pfB p q = true) (k : pfB p r = true) (hl : q.length ≤ r.length) : pfB r q = true := by
  have a := pf_pre h
  have b := pf_pre k
  have c : q <+: r := List.prefix_of_prefix_length_le a b hl
  rcases Nat.lt_or_ge q.length r.length with g | g
  · rcases pf_iff.mp h with rfl | ⟨_, h2⟩
    · have := b.length_le
      omega
    · refine pf_iff.mpr (.inr ⟨c, ?_⟩)
      rcases h2 with h2 | h2
      · exact .inl h2
      · exact .inr (by rw [← pre_at b g]; exact h2)
  · exact pf_iff.mpr (.inl (c.eq_of_length (Nat.le_antisymm hl g)).symm)
theorem pf_dflt {p r : List Nat} (e : p = 47 :: r) : pfB p (dflt p) = true := by
  obtain ⟨a, b, e2, hb, (⟨ha, h⟩ | ⟨ha, h⟩)⟩ := dflt_cases e
  · rw [h]; exact pf_slash e
  · rw [h]
    exact pf_iff.mpr (.inr ⟨⟨47 :: b, e2.symm⟩, .inr (by rw [e2]; simp)⟩)
end Kb

namespace Pf
open PySem PySem.Spec PyProof.Rows L2 TL Kb
def top (i : Nat) : Stmt := PySem.Challenge.pw_crumbjar_k12_whole_paths_in_order.main.body.getD i (.Pass ⟨0, 0, 0, 0⟩)
abbrev s__is_path_sign : Stmt := top 11
theorem sc__is_path_sign : FnScope ["sign"] ["sign"] (defScope s__is_path_sign) := ⟨rfl, rfl, rfl, by decide +kernel, rfl, by decide +kernel, by decide +kernel⟩
abbrev s_is_path : Stmt := top 7
theorem sc_is_path : FnScope ["value", "sign"] ["value"] (defScope s_is_path) := ⟨rfl, rfl, rfl, by decide +kernel, rfl, by decide +kernel, by decide +kernel⟩
abbrev s__need_path : Stmt := top 10
theorem sc__need_path : FnScope ["path"] ["path"] (defScope s__need_path) := ⟨rfl, rfl, rfl, by decide +kernel, rfl, by decide +kernel, by decide +kernel⟩
abbrev s_path_fits : Stmt := top 9
theorem sc_path_fits : FnScope ["path", "own"] ["path", "own"] (defScope s_path_fits) := ⟨rfl, rfl, rfl, by decide +kernel, rfl, by decide +kernel, by decide +kernel⟩
abbrev s__law_draw : Stmt := top 14
theorem sc__law_draw : FnScope ["cell", "k"] ["cell", "k"] (defScope s__law_draw) := ⟨rfl, rfl, rfl, by decide +kernel, rfl, by decide +kernel, by decide +kernel⟩
abbrev s_default_path : Stmt := top 8
theorem sc_default_path : FnScope ["path"] ["path"] (defScope s_default_path) := ⟨rfl, rfl, rfl, by decide +kernel, rfl, by decide +kernel, by decide +kernel⟩
abbrev s__law_mixed : Stmt := top 13
theorem sc__law_mixed : FnScope ["cell", "k", "one"] ["cell", "k"] (defScope s__law_mixed) := ⟨rfl, rfl, rfl, by decide +kernel, rfl, by decide +kernel, by decide +kernel⟩
abbrev s__law_digit : Stmt := top 15
theorem sc__law_digit : FnScope ["draw", "span", "j", "found"] ["draw", "span"] (defScope s__law_digit) := ⟨rfl, rfl, rfl, by decide +kernel, rfl, by decide +kernel, by decide +kernel⟩
abbrev s__law_paths : Stmt := top 16
theorem sc__law_paths : FnScope ["draw", "found", "j", "old", "more"] ["draw"] (defScope s__law_paths) := ⟨rfl, rfl, rfl, by decide +kernel, rfl, by decide +kernel, by decide +kernel⟩
abbrev s__law_down : Stmt := top 17
theorem sc__law_down : FnScope ["path", "found", "j"] ["path"] (defScope s__law_down) := ⟨rfl, rfl, rfl, by decide +kernel, rfl, by decide +kernel, by decide +kernel⟩
abbrev s_law : Stmt := top 18
theorem sc_law : FnScope ["script", "k", "amount", "draw", "paths", "fits", "p", "q", "down", "some", "one"] ["script"] (defScope s_law) := ⟨rfl, rfl, rfl, by decide +kernel, rfl, by decide +kernel, by decide +kernel⟩
/-- what the top has written -/
structure Txt (K : PySem.W.Frag) (mg : Str → Option Value) : Prop where
  b_enumerate : mg "enumerate" = none
  b_int : mg "int" = none
  b_isinstance : mg "isinstance" = none
  b_len : mg "len" = none
  b_ord : mg "ord" = none
  b_range : mg "range" = none
  b_str : mg "str" = none
  b_sum : mg "sum" = none
  c_MOST_OF_PATH : ∃ u, mg "MOST_OF_PATH" = some u ∧ RelV (.int 200) u
  c_BARRED : ∃ u, mg "BARRED" = some u ∧ RelV (.str ";?#") u
  c_PERCENT : ∃ u, mg "PERCENT" = some u ∧ RelV (.int 37) u
  d__is_path_sign : Df K mg "_is_path_sign" s__is_path_sign ["sign"]
  d_is_path : Df K mg "is_path" s_is_path ["value"]
  d__need_path : Df K mg "_need_path" s__need_path ["path"]
  d_path_fits : Df K mg "path_fits" s_path_fits ["path", "own"]
  d__law_draw : Df K mg "_law_draw" s__law_draw ["cell", "k"]
  d_default_path : Df K mg "default_path" s_default_path ["path"]
  d__law_mixed : Df K mg "_law_mixed" s__law_mixed ["cell", "k"]
  d__law_digit : Df K mg "_law_digit" s__law_digit ["draw", "span"]
  d__law_paths : Df K mg "_law_paths" s__law_paths ["draw"]
  d__law_down : Df K mg "_law_down" s__law_down ["path"]
def sp__is_path_sign : Sp := fun vs H Q _ => ∃ c : Nat, vs = [.str ⟨#[c]⟩] ∧ Q (.bl (psign c)) H
theorem psign_eq (c : Nat) : psign c = if (!decide (tl (⟨#[c]⟩ : Str) < tl ("!" : Str))) = true then (if (!decide (tl ("~" : Str) < tl (⟨#[c]⟩ : Str))) = true then (if (!decide (c ∈ tl (";?#" : Str))) = true then !decide ((c : Int) = 37) else false) else false) else false := by
  have e1 : tl ("!" : Str) = [33] := by decide +kernel
  have e2 : tl ("~" : Str) = [126] := by decide +kernel
  have e3 : tl (";?#" : Str) = [59, 63, 35] := by decide +kernel
  have e4 : tl (⟨#[c]⟩ : Str) = [c] := rfl
  rw [e1, e2, e3, e4]
  have l1 : ([c] : List Nat) < [33] ↔ c < 33 := by simp [List.cons_lt_cons_iff]
  have l2 : ([126] : List Nat) < [c] ↔ 126 < c := by simp [List.cons_lt_cons_iff]
  have l3 : ((c : Int) = 37) ↔ c = 37 := by omega
  simp only [l1, l2, l3, psign, List.mem_cons, List.not_mem_nil, or_false]
  by_cases h1 : c < 33
  · have : ¬ 33 ≤ c := by omega
    simp [h1, this]
  · have : 33 ≤ c := by omega
    by_cases h2 : 126 < c
    · have h3 : ¬ c ≤ 126 := by omega
      simp [h1, h2, h3]
    · have h3 : c ≤ 126 := by omega
      by_cases q1 : c = 59 <;> by_cases q2 : c = 63 <;> by_cases q3 : c = 35 <;> simp [h1, h2, h3, this, q1, q2, q3]
def sp_is_path (K : PySem.W.Frag) : Sp := fun vs H Q _ => ∃ (v : V) (b : Bool), vs = [v] ∧ TxV pathB K H v b ∧ Q (.bl b) H
def sp__need_path (K : PySem.W.Frag) : Sp := fun vs H Q _ => ∃ v : V, vs = [v] ∧ TxV pathB K H v true ∧ Q .non H
def sp_path_fits : Sp := fun vs H Q _ => ∃ x y : Str, vs = [.str x, .str y] ∧ pathB (tl x) = true ∧ pathB (tl y) = true ∧ Q (.bl (pfB (tl x) (tl y))) H
theorem one_slash (c : Nat) : decide (V.str ⟨#[c]⟩ = V.str ("/" : Str)) = (c == 47) := by
  rw [slash_eq, dec_str, Bool.eq_iff_iff, beq_iff_eq, beq_iff_eq, str_eq_iff]
  show [c] = [47] ↔ _
  simp
/-- a new draw -/
def sp__law_draw : Sp := fun vs H Q _ => ∃ c k : Int, vs = [.int c, .int k] ∧ 0 ≤ k ∧ k ≤ 1000 ∧ ∀ (d : Addr) (H' : Hp), Same H H' → H d = none → DrawAt H' d 200000000 → Q (.ref d) H'
theorem dkv_merge (l c t : Int) : mergeK [] (dkv l c t) = dkv l c t := by
  simp [mergeK, dkv, putK, kne1, kne2, kne3]
def sp_default_path : Sp := fun vs H Q _ => ∃ x : Str, vs = [.str x] ∧ pathB (tl x) = true ∧ ∀ (y : Str) (H' : Hp), Same H H' → tl y = dflt (tl x) → Q (.str y) H'
theorem pathV_of {K : PySem.W.Frag} {H : Hp} {x : Str} (h : pathB (tl x) = true) : TxV pathB K H (.str x) true := .inl ⟨x, rfl, Nat.le_trans (pathB_len h) (by decide), h.symm⟩
/-- some number below 2147483647 -/
def sp__law_mixed : Sp := fun vs H Q _ => ∃ c k : Int, vs = [.int c, .int k] ∧ 0 ≤ k ∧ k ≤ 1000000000 ∧ ∀ (r : Int) (H' : Hp), Same H H' → 0 ≤ r → r < 2147483647 → Q (.int r) H'
/-- some number below the span -/
def sp__law_digit : Sp := fun vs H Q _ => ∃ (d : Addr) (sp : Int) (n : Nat), vs = [.ref d, .int sp] ∧ 0 < sp ∧ sp < 4000000000 ∧ DrawAt H d (n + 1) ∧
  ∀ (r : Int) (H' : Hp), 0 ≤ r → r < sp → Keep d H H' → DrawAt H' d n → Q (.int r) H'
theorem small15 {n : Nat} (h : n ≤ 15) : n < sizeLine := Nat.lt_of_le_of_lt h (by decide)
def sp__law_paths : Sp := fun vs H Q _ => ∃ (d : Addr) (n : Nat), vs = [.ref d] ∧ DrawAt H d (n + 30) ∧
  ∀ (p : Addr) (xs : List Str) (H' : Hp), xs.length = 7 → (("/" : Str) ∈ xs) → (∀ x ∈ xs, PathQ 30 x) → Keep d H H' → H' p = some (.lst (xs.map V.str)) → H p = none → DrawAt H' d n → Q (.ref p) H'
def sp__law_down : Sp := fun vs H Q _ => ∃ (x : Str), vs = [.str x] ∧ PathQ 30 x ∧
  ∀ (p : Addr) (xs : List Str) (z : Str) (H' : Hp), Same H H' → H' p = some (.lst ((xs ++ [z]).map V.str)) → tl z = [47] → (∀ y ∈ xs ++ [z], PathQ 30 y ∧ pfB (tl x) (tl y) = true) → Q (.ref p) H'
def sp_law (K : PySem.W.Frag) : Sp := fun vs H Q _ => ∃ (a : Addr) (ns : List Int), vs = [.ref a] ∧ SqL K H a (ns.map V.int) ∧ ns.length ≤ 63 ∧ ∀ H', Q (.bl true) H'
def Gd (kvs : List (List Key × V)) (p q : Str) : Prop := valV kvs [(Sum.inr p : Key), (Sum.inr q : Key)] = some (.bl (pfB (tl p) (tl q)))
theorem gd_put (kvs : List (List Key × V)) (p q : Str) : Gd (putK kvs [(Sum.inr p : Key), (Sum.inr q : Key)] (.bl (pfB (tl p) (tl q)))) p q := by
  unfold Gd
  rw [valV_put, if_pos rfl]
theorem gd_keep {kvs : List (List Key × V)} {p q p' q' : Str} (h : Gd kvs p' q') : Gd (putK kvs [(Sum.inr p : Key), (Sum.inr q : Key)] (.bl (pfB (tl p) (tl q)))) p' q' := by
  unfold Gd at *
  rw [valV_put]
  by_cases e : ([(Sum.inr p' : Key), (Sum.inr q' : Key)] : List Key) = [(Sum.inr p : Key), (Sum.inr q : Key)]
  · rw [if_pos e]
    simp only [List.cons.injEq, Sum.inr.injEq, and_true] at e
    rw [e.1, e.2]
  · rw [if_neg e]; exact h
theorem gd_get {H : Hp} {F t : Addr} {kvs : List (List Key × V)} {p q : Str} (hF : H F = some (.dT kvs)) (ht : H t = some (.tup [.str p, .str q])) (g : Gd kvs p q) : DGet H F (.ref t) (some (.bl (pfB (tl p) (tl q)))) := by
  have e := DGet.t (k := [(Sum.inr p : Key), (Sum.inr q : Key)]) hF ht
  rw [show valV kvs [(Sum.inr p : Key), (Sum.inr q : Key)] = _ from g] at e
  exact e
theorem take_mem {α : Type} {l : List α} {i : Nat} {x y : α} (h : l[i]? = some x) (hy : y ∈ l.take (i + 1)) : y ∈ l.take i ∨ y = x := by
  rw [List.take_add_one, h] at hy
  rcases List.mem_append.mp hy with q | q
  · exact .inl q
  · simp at q; exact .inr q
theorem nil_map : ([] : List Str).map V.str = [] := rfl
section
variable {P : Program} {w : World} {K : PySem.W.Frag} {mg : Str → Option Value} {base : Heap}
theorem ok__is_path_sign (T : Txt K mg) : Cal P w K mg base CX0 1 "_is_path_sign" ["sign"] sp__is_path_sign := by
  refine T.d__is_path_sign.ok0 sc__is_path_sign (fun vs H Q E h => ?_) (fun f cdv A outer s H vs Q E hr h => ?_)
  · first | (obtain ⟨_, rfl, _⟩ := h; rfl) | (obtain ⟨_, _, rfl, _⟩ := h; rfl) | (obtain ⟨_, _, _, rfl, _⟩ := h; rfl) | (obtain ⟨_, _, _, _, rfl, _⟩ := h; rfl) | (obtain ⟨_, _, _, _, _, rfl, _⟩ := h; rfl)
  · refine ⟨_, (pss_one (ps_ret (pe_and (pe_chain (op_le_str) (op_le_str) pe_str (pv 0) pe_str) (pe_and (pe_cmpR (op_notIn_sign) (pv 0) (pe_gc (by rfl) T.c_BARRED) rfl) (pe_one (pe_cmpR (op_ne) (pe_callB call_ord (by rfl) T.b_ord (by decide +kernel) (pa_cons (pv 0) pa_nil)) (pe_gc (by rfl) T.c_PERCENT) (nomark _))))))), ?_⟩
    obtain ⟨c, rfl, hQ⟩ := h
    rw [psign_eq] at hQ
    refine ⟨_, rfl, _, _, rfl, rfl, _, rfl, ?_⟩
    refine iteB (fun h1 => ?_) (fun h1 => ?_)
    · rw [if_pos h1] at hQ
      refine ⟨_, _, rfl, rfl, _, rfl, ?_⟩
      refine iteB (fun h2 => ?_) (fun h2 => ?_)
      · rw [if_pos h2] at hQ
        refine ⟨_, rfl, _, _, rfl, rfl, _, rfl, ?_⟩
        refine iteB (fun h3 => ?_) (fun h3 => ?_)
        · rw [if_pos h3] at hQ
          refine ⟨_, rfl, _, rfl, rfl, rfl, ?_⟩
          have e : decide (V.int (((⟨#[c]⟩ : Str).cps.getD 0 0 : Nat) : Int) = V.int 37) = decide ((c : Int) = 37) := by
            rw [show ((⟨#[c]⟩ : Str).cps.getD 0 0) = c from rfl, dec_int]; rfl
          rw [e]
          exact hQ
        · rw [if_neg (by rw [h3]; exact Bool.false_ne_true)] at hQ
          exact hQ
      · rw [if_neg (by rw [h2]; exact Bool.false_ne_true)] at hQ
        exact hQ
    · rw [if_neg (by rw [h1]; exact Bool.false_ne_true)] at hQ
      exact ⟨_, rfl, iteF hQ⟩
theorem ok_is_path (T : Txt K mg) : Cal P w K mg base CX0 2 "is_path" ["value"] (sp_is_path K) := by
  refine T.d_is_path.ok0 sc_is_path (fun vs H Q E h => ?_) (fun f cdv A outer s H vs Q E hr h => ?_)
  · first | (obtain ⟨_, rfl, _⟩ := h; rfl) | (obtain ⟨_, _, rfl, _⟩ := h; rfl) | (obtain ⟨_, _, _, rfl, _⟩ := h; rfl) | (obtain ⟨_, _, _, _, rfl, _⟩ := h; rfl) | (obtain ⟨_, _, _, _, _, rfl, _⟩ := h; rfl)
  · refine ⟨_, (pss_cons (ps_if (PW.pt (pw_or (pt_not (pt_val (pe_callB call_isi (by rfl) T.b_isinstance (by decide +kernel) (pa_cons (pv 0) (pa_cons (pe_bltn (v := .ty "str") (by rfl) T.b_str (by decide +kernel) rfl) pa_nil))))) (pw_or (pt_cmpR (op_gt) (pe_callB call_len_str (by rfl) T.b_len (by decide +kernel) (pa_cons (pv 0) pa_nil)) (pe_gc (by rfl) T.c_MOST_OF_PATH) (nomark _)) (pw_or1 (pt_not (pt_val (pe_m1 PySem.F.slot_str_startswith PySem.F.type_str_startswith mt_startswith (pv 0) pe_str)))))))
      (pss_one (ps_ret pe_bl))
      pss_nil)
      (pss_cons (ps_for PassesOwn.never rfl (pi_str (pv 0)) (pg_name (i := 1) sc_is_path.nd rfl (by first | exact Or.inl rfl | exact Or.inr rfl))
      (pss_one (ps_if (pt_not (pt_val (pe_c (ok__is_path_sign T) hr (by decide) (by rfl) pass0 (pa_cons (pv 1) pa_nil))))
      (pss_one (ps_ret pe_bl))
      pss_nil)))
      (pss_one (ps_ret pe_bl)))), ?_⟩
    obtain ⟨v, b, rfl, hv, hQ⟩ := h
    rcases hv with ⟨x, rfl, hx, rfl⟩ | ⟨t, ht, hk, rfl⟩
    · refine ⟨_, rfl, _, _, _, _, true, rfl, .ty _, .base (.str x), kit_str K, _, rfl, iteF ?_⟩
      refine ⟨_, rfl, x, rfl, Nat.le_trans hx (by decide), _, _, rfl, rfl, _, rfl, iteB (fun h1 => ?_) (fun h1 => ?_)⟩
      · have h1 : (200 : Int) < (x.length : Int) := of_decide_eq_true h1
        have e : pathB (tl x) = false := by
          unfold pathB
          rw [decide_eq_false (by rw [len_tl] at h1; omega), Bool.false_and]
        rw [e] at hQ
        exact hQ
      · have h1 : ¬ (200 : Int) < (x.length : Int) := of_decide_eq_false h1
        have hl : (tl x).length ≤ 200 := by rw [len_tl] at h1; omega
        refine ⟨_, rfl, ⟨_, rfl⟩, _, _, rfl, rfl, _, rfl, ?_⟩
        rw [startswith_tl]
        have e47 : tl ("/" : Str) = [47] := by decide +kernel
        rw [e47]
        cases h2 : [47].isPrefixOf (tl x) with
        | false =>
          have e : pathB (tl x) = false := by
            unfold pathB
            rw [h2, Bool.false_and, Bool.and_false]
          rw [e] at hQ
          exact iteT hQ
        | true =>
          refine iteF ?_
          refine ⟨_, rfl, x, rfl, for_str (z := x) (fun i σ H1 => ∃ sv, σ = [some (.str x), sv] ∧ H1 = H ∧ ((tl x).take i).all psign = true) ⟨none, rfl, rfl, by simp⟩ ?_ ?_⟩
          · rintro i c σ H1 hc ⟨sv, rfl, rfl, ha⟩
            refine ⟨_, rfl, c, rfl, _, rfl, ?_⟩
            cases hp : psign c with
            | true => exact iteF ⟨_, rfl, rfl, by rw [all_at hc, ha, hp]; rfl⟩
            | false =>
              have e : pathB (tl x) = false := by
                unfold pathB
                have : (tl x).all psign = false := by
                  rw [List.all_eq_false]
                  exact ⟨c, List.mem_of_getElem? hc, by rw [hp]; exact Bool.false_ne_true⟩
                rw [this, Bool.and_false, Bool.and_false]
              rw [e] at hQ
              exact iteT hQ
          · rintro σ H1 ⟨sv, rfl, rfl, ha⟩
            rw [List.take_length] at ha
            have e : pathB (tl x) = true := by
              unfold pathB
              rw [decide_eq_true hl, h2, ha]; rfl
            rw [e] at hQ
            exact hQ
    · refine ⟨_, rfl, _, _, _, _, false, rfl, .ty _, ht, hk, _, rfl, iteT ?_⟩
      exact hQ
theorem ok__need_path (T : Txt K mg) : Cal P w K mg base CX0 3 "_need_path" ["path"] (sp__need_path K) := by
  refine T.d__need_path.ok0 sc__need_path (fun vs H Q E h => ?_) (fun f cdv A outer s H vs Q E hr h => ?_)
  · first | (obtain ⟨_, rfl, _⟩ := h; rfl) | (obtain ⟨_, _, rfl, _⟩ := h; rfl) | (obtain ⟨_, _, _, rfl, _⟩ := h; rfl) | (obtain ⟨_, _, _, _, rfl, _⟩ := h; rfl) | (obtain ⟨_, _, _, _, _, rfl, _⟩ := h; rfl)
  · refine ⟨_, (pss_one (ps_if (pt_not (pt_val (pe_c (ok_is_path T) hr (by decide) (by rfl) pass0 (pa_cons (pv 0) pa_nil))))
      (pss_one ps_never)
      pss_nil)), ?_⟩
    obtain ⟨v, rfl, hv, hQ⟩ := h
    exact ⟨_, rfl, v, true, rfl, hv, _, rfl, iteF hQ⟩
theorem ok_path_fits (T : Txt K mg) : Cal P w K mg base CX0 4 "path_fits" ["path", "own"] sp_path_fits := by
  refine T.d_path_fits.ok0 sc_path_fits (fun vs H Q E h => ?_) (fun f cdv A outer s H vs Q E hr h => ?_)
  · first | (obtain ⟨_, rfl, _⟩ := h; rfl) | (obtain ⟨_, _, rfl, _⟩ := h; rfl) | (obtain ⟨_, _, _, rfl, _⟩ := h; rfl) | (obtain ⟨_, _, _, _, rfl, _⟩ := h; rfl) | (obtain ⟨_, _, _, _, _, rfl, _⟩ := h; rfl)
  · refine ⟨_, (pss_cons (ps_expr (pe_c (ok__need_path T) hr (by decide) (by rfl) pass0 (pa_cons (pv 0) pa_nil)))
      (pss_cons (ps_expr (pe_c (ok__need_path T) hr (by decide) (by rfl) pass0 (pa_cons (pv 1) pa_nil)))
      (pss_cons (ps_if (pt_cmpR (op_eq) (pv 0) (pv 1) (nomark _))
      (pss_one (ps_ret pe_bl))
      pss_nil)
      (pss_one (ps_ret (pe_and (pe_m1 PySem.F.slot_str_startswith PySem.F.type_str_startswith mt_startswith (pv 0) (pv 1)) (pe_one (pe_or (pe_m1 PySem.F.slot_str_endswith PySem.F.type_str_endswith mt_endswith (pv 1) pe_str) (pe_one (pe_cmpR (op_eq) (pe_ix ix_str (pv 0) (pe_callB call_len_str (by rfl) T.b_len (by decide +kernel) (pa_cons (pv 1) pa_nil)) (fun _ _ => rfl)) pe_str (nomark _))))))))))), ?_⟩
    obtain ⟨x, y, rfl, hx, hy, hQ⟩ := h
    have hxl := pathB_len hx
    have hyl := pathB_len hy
    refine ⟨_, rfl, _, rfl, pathV_of hx, ?_⟩
    refine ⟨_, rfl, _, rfl, pathV_of hy, ?_⟩
    refine ⟨_, rfl, _, rfl, rfl, _, rfl, iteB (fun h1 => ?_) (fun h1 => ?_)⟩
    · have e : x = y := V.str.inj (of_decide_eq_true h1)
      subst e
      have : pfB (tl x) (tl x) = true := by unfold pfB; rw [decide_eq_true rfl, Bool.true_or]
      rw [this] at hQ
      exact hQ
    have hne : tl x ≠ tl y := fun e => of_decide_eq_false h1 (by rw [ext_tl e])
    have hd : decide (tl x = tl y) = false := decide_eq_false hne
    refine ⟨_, rfl, ⟨_, rfl⟩, _, rfl, _, _, rfl, rfl, _, rfl, ?_⟩
    rw [startswith_tl]
    unfold pfB at hQ
    rw [hd, Bool.false_or] at hQ
    cases h2 : (tl y).isPrefixOf (tl x) with
    | false =>
      rw [h2, Bool.false_and] at hQ
      exact iteF hQ
    | true =>
      rw [h2, Bool.true_and] at hQ
      refine iteT ?_
      have pre := List.isPrefixOf_iff_prefix.mp h2
      have hlt : (tl y).length < (tl x).length := by
        have := pre.length_le
        rcases Nat.lt_or_ge (tl y).length (tl x).length with q | q
        · exact q
        · exact absurd (pre.eq_of_length (by omega)).symm hne
      refine ⟨_, rfl, ⟨_, rfl⟩, _, _, rfl, rfl, _, rfl, ?_⟩
      rw [endswith_tl, tl_slash]
      cases h3 : [47].isSuffixOf (tl y) with
      | true =>
        rw [h3, Bool.true_or] at hQ
        exact iteT hQ
      | false =>
        rw [h3, Bool.false_or] at hQ
        refine iteF ?_
        have hc : (tl x)[(tl y).length]? = some (tl x)[(tl y).length] := List.getElem?_eq_getElem hlt
        have ha : atI x.cps.toList (y.length : Int) = some (tl x)[(tl y).length] := by rw [len_tl y]; exact atI_nat hc
        refine ⟨_, rfl, _, rfl, y, rfl, Nat.le_trans hyl (by decide), x, _, (tl x)[(tl y).length], rfl, rfl, Nat.le_trans hxl (by decide), ha, rfl, ?_⟩
        rw [one_slash]
        rw [hc] at hQ
        exact hQ
theorem ok__law_draw (T : Txt K mg) : Cal P w K mg base CX0 1 "_law_draw" ["cell", "k"] sp__law_draw := by
  refine T.d__law_draw.ok0 sc__law_draw (fun vs H Q E h => ?_) (fun f cdv A outer s H vs Q E hr h => ?_)
  · first | (obtain ⟨_, rfl, _⟩ := h; rfl) | (obtain ⟨_, _, rfl, _⟩ := h; rfl) | (obtain ⟨_, _, _, rfl, _⟩ := h; rfl) | (obtain ⟨_, _, _, _, rfl, _⟩ := h; rfl) | (obtain ⟨_, _, _, _, _, rfl, _⟩ := h; rfl)
  · refine ⟨_, (pss_one (ps_ret (pe_disp (pps_cons pe_str (pe_ifExp (pt_cmpR (op_ge) (pv 0) (pe_op op_pow pe_int pe_int) (nomark _)) (pv 0) pe_int) (pps_cons pe_str (pv 0) (pps_cons pe_str (pe_op op_mul pe_int (pv 1)) pps_nil))) rfl rfl (by simp) (by decide)))), ?_⟩
    obtain ⟨c, k, rfl, hk0, hk1, hQ⟩ := h
    have fin : ∀ l : Int, 0 ≤ l → ∀ p, H p = none → Q (.ref p) (upd (upd H p (.dK [])) p (.dK (mergeK [] (dkv l c (1000 * k))))) := fun l hl p hp =>
      hQ _ _ (fun b o e => by rw [upd_ne (ne_of_none e hp), upd_ne (ne_of_none e hp)]; exact e) hp ⟨l, c, 1000 * k, by rw [upd_same, dkv_merge], hl, by omega, by omega⟩
    intro p hp
    refine ⟨_, rfl, _, _, rfl, rfl, ⟨by decide, by decide, by decide⟩, _, _, rfl, rfl, _, rfl, ?_⟩
    refine iteB (fun hb => ?_) (fun hb => ?_)
    · have hc : (10 : Int) ^ (18 : Int).toNat ≤ c := of_decide_eq_true hb
      have h0 : (0 : Int) ≤ (10 : Int) ^ (18 : Int).toNat := by decide
      refine ⟨_, rfl, _, rfl, _, rfl, _, _, rfl, rfl, .inl ⟨by decide, by decide⟩, upd_same, dkv c c (1000 * k), rfl, by show 3 ≤ 15; decide, fin c (by omega) p hp⟩
    · refine ⟨_, rfl, _, rfl, _, _, rfl, rfl, .inl ⟨by decide, by decide⟩, upd_same, dkv 0 c (1000 * k), rfl, by show 3 ≤ 15; decide, fin 0 (by omega) p hp⟩
theorem ok_default_path (T : Txt K mg) : Cal P w K mg base CX0 4 "default_path" ["path"] sp_default_path := by
  refine T.d_default_path.ok0 sc_default_path (fun vs H Q E h => ?_) (fun f cdv A outer s H vs Q E hr h => ?_)
  · first | (obtain ⟨_, rfl, _⟩ := h; rfl) | (obtain ⟨_, _, rfl, _⟩ := h; rfl) | (obtain ⟨_, _, _, rfl, _⟩ := h; rfl) | (obtain ⟨_, _, _, _, rfl, _⟩ := h; rfl) | (obtain ⟨_, _, _, _, _, rfl, _⟩ := h; rfl)
  · refine ⟨_, (pss_cons (ps_expr (pe_c (ok__need_path T) hr (by decide) (by rfl) pass0 (pa_cons (pv 0) pa_nil)))
      (pss_one (ps_ret (pe_orT (pe_ix ix_tup (pe_m1 PySem.F.slot_str_rpartition PySem.F.type_str_rpartition mt_rpartition (pv 0) pe_str) pe_int (fun _ _ => rfl)) (pe_one pe_str))))), ?_⟩
    obtain ⟨x, rfl, hp, hQ⟩ := h
    have hl := pathB_len hp
    obtain ⟨r, hr47⟩ := pathB_head hp
    obtain ⟨a, b, e, hb⟩ := last_cut (c := 47) (l := tl x) (by rw [hr47]; exact List.mem_cons_self ..)
    refine ⟨_, rfl, _, rfl, pathV_of hp, ?_⟩
    refine ⟨_, rfl, ⟨_, rfl⟩, x, _, rfl, rfl, by decide +kernel, Nat.le_trans hl (by decide), fun p hpn => ?_⟩
    refine ⟨p, _, 0, _, rfl, rfl, SqT.of upd_same, rfl, ?_⟩
    have e1 : tl (Txt.rpartition x ("/" : Str)).1 = a := by
      rw [slash_eq]; exact rpartition_hit e hb
    have hal : (Txt.rpartition x ("/" : Str)).1.length ≤ 200 := by
      rw [len_tl, e1]
      rw [len_tl, e, List.length_append] at hl
      omega
    refine ⟨_, ⟨Nat.le_trans hal (by decide), rfl⟩, ?_⟩
    by_cases ha : a = []
    · have h0 : (Txt.rpartition x ("/" : Str)).1.length = 0 := by rw [len_tl, e1, ha]; rfl
      rw [h0]
      refine iteF (hQ _ _ (Same.new hpn) ?_)
      rw [dflt_cut e hb, if_pos ha, tl_slash]
    · have h0 : (Txt.rpartition x ("/" : Str)).1.length ≠ 0 := by
        rw [len_tl, e1]
        intro z
        exact ha (List.eq_nil_of_length_eq_zero z)
      have h1 : (((Txt.rpartition x ("/" : Str)).1.length : Int) != 0) = true := by
        rw [bne_iff_ne]; omega
      rw [h1]
      refine iteT (hQ _ _ (Same.new hpn) ?_)
      rw [dflt_cut e hb, if_neg ha, e1]
theorem ok__law_mixed (T : Txt K mg) : Cal P w K mg base CX0 1 "_law_mixed" ["cell", "k"] sp__law_mixed := by
  refine T.d__law_mixed.ok0 sc__law_mixed (fun vs H Q E h => ?_) (fun f cdv A outer s H vs Q E hr h => ?_)
  · first | (obtain ⟨_, rfl, _⟩ := h; rfl) | (obtain ⟨_, _, rfl, _⟩ := h; rfl) | (obtain ⟨_, _, _, rfl, _⟩ := h; rfl) | (obtain ⟨_, _, _, _, rfl, _⟩ := h; rfl) | (obtain ⟨_, _, _, _, _, rfl, _⟩ := h; rfl)
  · refine ⟨_, (pss_cons (ps_set (i := 2) sc__law_mixed.nd rfl (by first | exact Or.inl rfl | exact Or.inr rfl) (pe_op op_add (pe_op op_add (pe_op op_mod (pe_callTy call_int1 (by rfl) T.b_int (by decide +kernel) (pa_cons (pv 0) pa_nil)) (pe_ix ix_list (pe_lst (pa_cons pe_int (pa_cons pe_int (pa_cons pe_int (pa_cons pe_int pa_nil))))) (pe_op op_mod (pe_callTy call_int1 (by rfl) T.b_int (by decide +kernel) (pa_cons (pv 1) pa_nil)) pe_int) (fun _ _ => rfl))) (pe_op op_mul pe_int (pv 1))) pe_int))
      (pss_one (ps_ret (pe_op op_mod (pe_callTy call_int1 (by rfl) T.b_int (by decide +kernel) (pa_cons (pe_op op_mul (pe_op op_mod (pe_callTy call_int1 (by rfl) T.b_int (by decide +kernel) (pa_cons (pe_op op_mul (pv 2) (pv 2)) pa_nil)) pe_int) pe_int) pa_nil)) pe_int)))), ?_⟩
    obtain ⟨c, k, rfl, hk0, hk1, hQ⟩ := h
    refine ⟨_, rfl, .inl ⟨_, rfl, ?_⟩⟩
    refine ⟨by show 4 ≤ sizeLine; decide, fun p hp => ?_⟩
    refine ⟨_, rfl, .inl ⟨_, rfl, ?_⟩⟩
    refine ⟨_, _, rfl, rfl, by show (0 : Int) < 4; decide, ?_⟩
    obtain ⟨v, hv, ha⟩ := menu (xs := [V.int 1000000007, V.int 998244353, V.int 2147483629, V.int 1000000009]) (i := k % 4) (by omega) (by show k % 4 < 4; omega)
    obtain ⟨m, rfl, hm0, hm1⟩ : ∃ m : Int, v = .int m ∧ 0 < m ∧ m < 2147483647 := by
      simp only [List.mem_cons, List.not_mem_nil, or_false] at hv
      rcases hv with rfl | rfl | rfl | rfl <;> exact ⟨_, rfl, by decide, by decide⟩
    refine ⟨p, _, _, _, rfl, rfl, SqL.of upd_same, ha, ?_⟩
    refine ⟨_, _, rfl, rfl, hm0, ?_⟩
    refine ⟨_, rfl, _, _, rfl, rfl, .inl ⟨by decide, by decide⟩, ?_⟩
    refine ⟨_, _, rfl, rfl, ?_⟩
    refine ⟨_, _, rfl, rfl, ?_⟩
    have h1 : 0 ≤ c % m := Int.emod_nonneg _ (by omega)
    have h2 : c % m < m := Int.emod_lt_of_pos _ hm0
    generalize c % m = q at h1 h2 ⊢
    refine ⟨_, rfl, _, rfl, _, _, rfl, rfl, .inl ⟨by show (-(2 ^ 64) : Int) < q + 7919 * k + 13; omega, by show q + 7919 * k + 13 < (2 ^ 64 : Int); omega⟩, ?_⟩
    refine .inl ⟨_, rfl, ?_⟩
    refine ⟨_, _, rfl, rfl, by show (0 : Int) < 2147483647; decide, ?_⟩
    refine ⟨_, _, rfl, rfl, .inr ⟨by decide, by decide⟩, ?_⟩
    refine .inl ⟨_, rfl, ?_⟩
    refine ⟨_, _, rfl, rfl, by show (0 : Int) < 2147483647; decide, ?_⟩
    exact hQ _ _ (Same.new hp) (Int.emod_nonneg _ (by decide)) (Int.emod_lt_of_pos _ (by decide))
theorem ok__law_digit (T : Txt K mg) : Cal P w K mg base CX0 2 "_law_digit" ["draw", "span"] sp__law_digit := by
  refine T.d__law_digit.ok0 sc__law_digit (fun vs H Q E h => ?_) (fun f cdv A outer s H vs Q E hr h => ?_)
  · first | (obtain ⟨_, rfl, _⟩ := h; rfl) | (obtain ⟨_, _, rfl, _⟩ := h; rfl) | (obtain ⟨_, _, _, rfl, _⟩ := h; rfl) | (obtain ⟨_, _, _, _, rfl, _⟩ := h; rfl) | (obtain ⟨_, _, _, _, _, rfl, _⟩ := h; rfl)
  · have hu := hu_of hr
    refine ⟨_, (Evl.pss_cut (ps_if (pt_cmpR (op_eq) (pe_dget hu (pv 0) pe_str (fun _ _ => rfl)) pe_int (nomark _))
      (pss_one (ps_for PassesOwn.never rfl (pi_range1 (by rfl) T.b_range (pa_cons pe_int pa_nil)) (pg_name (i := 2) sc__law_digit.nd rfl (by first | exact Or.inl rfl | exact Or.inr rfl))
      (pss_cons (ps_dput hu (pv 0) pe_str (pe_op op_add (pe_dget hu (pv 0) pe_str (fun _ _ => rfl)) pe_int) rfl)
      (pss_one (ps_dput hu (pv 0) pe_str (pe_op op_add (pe_op op_mul (pe_dget hu (pv 0) pe_str (fun _ _ => rfl)) pe_int) (pe_c (ok__law_mixed T) hr (by decide) (by rfl) pass0 (pa_cons (pe_dget hu (pv 0) pe_str (fun _ _ => rfl)) (pa_cons (pe_dget hu (pv 0) pe_str (fun _ _ => rfl)) pa_nil)))) rfl)))))
      pss_nil)
      (pss_cons (ps_set (i := 3) sc__law_digit.nd rfl (by first | exact Or.inl rfl | exact Or.inr rfl) (pe_op op_mod (pe_callTy call_int1 (by rfl) T.b_int (by decide +kernel) (pa_cons (pe_dget hu (pv 0) pe_str (fun _ _ => rfl)) pa_nil)) (pv 1)))
      (pss_cons (ps_dput hu (pv 0) pe_str (pe_op op_fdivW (pe_callTy call_int1 (by rfl) T.b_int (by decide +kernel) (pa_cons (pe_dget hu (pv 0) pe_str (fun _ _ => rfl)) pa_nil)) (pv 1)) rfl)
      (pss_one (ps_ret (pv 3)))))), ?_⟩
    obtain ⟨d, sp, n, rfl, hs0, hs1, ⟨l, c, t, hd, hl, ht, hn⟩, hQ⟩ := h
    refine ⟨fun σ' H' => ∃ (j : Option V) (l1 t1 : Int), σ' = [some (.ref d), some (.int sp), j, none] ∧ Keep d H H' ∧ H' d = some (.dK (dkv l1 c t1)) ∧ 0 ≤ l1 ∧ 0 ≤ t1 ∧ t1 + 4 * (n : Int) ≤ 1000000000, ?_, ?_⟩
    · refine ⟨_, rfl, d, _, rfl, dget_left hd, rfl, _, rfl, ?_⟩
      refine iteB (fun hb => ?_) (fun hb => ?_)
      · refine ⟨4, rfl, by decide, by decide, for_range (n := 4) (fun i σ H1 => ∃ (j : Option V) (l1 t1 : Int), σ = [some (.ref d), some (.int sp), j, none] ∧ Keep d H H1 ∧ H1 d = some (.dK (dkv l1 c t1)) ∧ 0 ≤ l1 ∧ 0 ≤ t1 ∧ t1 = t + i) ⟨none, l, t, rfl, Keep.refl, hd, hl, ht, by simp⟩ ?_ ?_⟩
        · rintro i σ H1 hi ⟨j, l1, t1, rfl, k1, h1, hl1, ht1, et⟩
          refine ⟨_, rfl, d, _, rfl, dget_turns h1, _, _, rfl, rfl, _, rfl, d, _, rfl, dput_turns _ h1, ?_⟩
          have h2 : (upd H1 d (.dK (dkv l1 c (t1 + 1)))) d = some (.dK (dkv l1 c (t1 + 1))) := upd_same
          refine ⟨_, rfl, d, _, rfl, dget_left h2, _, _, rfl, rfl, .inr ⟨by decide, by decide⟩, _, rfl, d, _, rfl, dget_cell h2, _, rfl, d, _, rfl, dget_turns h2, ?_⟩
          refine ⟨_, _, rfl, by omega, by omega, fun r H3 s3 hr0 hr1 => ?_⟩
          refine ⟨_, _, rfl, rfl, _, rfl, d, _, rfl, dput_left _ (s3 _ _ h2), ?_⟩
          exact ⟨_, _, _, rfl, ((k1.upd).same s3).upd, upd_same, by omega, by omega, by omega⟩
        · rintro σ H1 ⟨j, l1, t1, rfl, k1, h1, hl1, ht1, et⟩
          exact ⟨j, l1, t1, rfl, k1, h1, hl1, ht1, by omega⟩
      · exact ⟨none, l, t, rfl, Keep.refl, hd, hl, ht, by omega⟩
    · rintro σ' H1 ⟨j, l1, t1, rfl, k1, h1, hl1, ht1, ht2⟩
      refine ⟨_, rfl, d, _, rfl, dget_left h1, .inl ⟨_, rfl, _, rfl, _, _, rfl, rfl, hs0, ?_⟩⟩
      refine ⟨_, rfl, d, _, rfl, dget_left h1, .inl ⟨_, rfl, _, rfl, _, _, rfl, rfl, ?_, _, rfl, d, _, rfl, dput_left _ h1, ?_⟩⟩
      · exact wide_div (b := 32) hs0 (by omega) (by decide) (by decide)
      · exact ⟨_, rfl, hQ _ _ (Int.emod_nonneg _ (by omega)) (Int.emod_lt_of_pos _ hs0) k1.upd ⟨_, _, _, upd_same, Int.ediv_nonneg hl1 (by omega), ht1, ht2⟩⟩
theorem ok__law_paths (T : Txt K mg) : Cal P w K mg base CX0 5 "_law_paths" ["draw"] sp__law_paths := by
  refine T.d__law_paths.ok0 sc__law_paths (fun vs H Q E h => ?_) (fun f cdv A outer s H vs Q E hr h => ?_)
  · first | (obtain ⟨_, rfl, _⟩ := h; rfl) | (obtain ⟨_, _, rfl, _⟩ := h; rfl) | (obtain ⟨_, _, _, rfl, _⟩ := h; rfl) | (obtain ⟨_, _, _, _, rfl, _⟩ := h; rfl) | (obtain ⟨_, _, _, _, _, rfl, _⟩ := h; rfl)
  · refine ⟨_, (pss_cons (ps_set (i := 1) sc__law_paths.nd rfl (by first | exact Or.inl rfl | exact Or.inr rfl) (pe_lst (pa_cons pe_str pa_nil)))
      (pss_cons (ps_for PassesOwn.never rfl (pi_range1 (by rfl) T.b_range (pa_cons pe_int pa_nil)) (pg_name (i := 2) sc__law_paths.nd rfl (by first | exact Or.inl rfl | exact Or.inr rfl))
      (pss_cons (ps_set (i := 3) sc__law_paths.nd rfl (by first | exact Or.inl rfl | exact Or.inr rfl) (pe_ix ix_list (pv 1) (pe_c (ok__law_digit T) hr (by decide) (by rfl) pass0 (pa_cons (pv 0) (pa_cons (pe_callB call_len_seq (by rfl) T.b_len (by decide +kernel) (pa_cons (pv 1) pa_nil)) pa_nil))) (fun _ _ => rfl)))
      (pss_cons (ps_set (i := 4) sc__law_paths.nd rfl (by first | exact Or.inl rfl | exact Or.inr rfl) (pe_ix ix_list (pe_lst (pa_cons pe_str (pa_cons pe_str (pa_cons pe_str (pa_cons pe_str (pa_cons pe_str (pa_cons pe_str pa_nil))))))) (pe_c (ok__law_digit T) hr (by decide) (by rfl) pass0 (pa_cons (pv 0) (pa_cons pe_int pa_nil))) (fun _ _ => rfl)))
      (pss_one (ps_expr (pe_bm PySem.F.plainAttrs_list PySem.F.slot_list_append PySem.F.type_list_append mt_append (pv 1) (pa_cons (pe_ix ix_list (pe_lst (pa_cons (pe_op op_add_str (pv 3) (pv 4)) (pa_cons (pe_op op_add_str pe_str (pv 4)) (pa_cons (pe_c (ok_default_path T) hr (by decide) (by rfl) pass0 (pa_cons (pe_op op_add_str (pv 3) (pv 4)) pa_nil)) pa_nil)))) (pe_c (ok__law_digit T) hr (by decide) (by rfl) pass0 (pa_cons (pv 0) (pa_cons pe_int pa_nil))) (fun _ _ => rfl)) pa_nil)))))))
      (pss_one (ps_ret (pv 1))))), ?_⟩
    obtain ⟨d, n, rfl, D, hQ⟩ := h
    refine ⟨by show 1 ≤ sizeLine; decide, fun L hL => ?_⟩
    have hdL : L ≠ d := D.ne hL
    refine ⟨6, rfl, by decide, by decide, for_range (n := 6) (fun i σ H2 => ∃ (xs : List Str) (v1 v2 v3 : Option V), σ = [some (.ref d), some (.ref L), v1, v2, v3] ∧ xs.length = i + 1 ∧ (("/" : Str) ∈ xs) ∧ (∀ x ∈ xs, PathQ (1 + 3 * i) x) ∧ H2 L = some (.lst (xs.map V.str)) ∧ Keep d H H2 ∧ DrawAt H2 d (n + 30 - 3 * i)) ⟨[("/" : Str)], none, none, none, rfl, rfl, List.mem_singleton.mpr rfl, fun x hx => by rw [List.mem_singleton.mp hx]; exact ⟨⟨[], by decide +kernel⟩, by decide +kernel, by decide +kernel⟩, upd_same, Keep.refl.updN hL, D.upd hdL.symm⟩ ?_ ?_⟩
    · rintro i σ H2 hi ⟨xs, v1, v2, v3, rfl, hlen, hsl, hxs, hl, k2, D2⟩
      refine ⟨_, rfl, _, rfl, _, rfl, L, _, rfl, .inl (SqL.of hl), d, _, n + 30 - 3 * i - 1, rfl, by rw [List.length_map]; omega, by rw [List.length_map]; omega, D2.less (by omega), fun r H3 h0 h1 k3 D3 => ?_⟩
      have hl3 := k3 _ _ hl hdL
      obtain ⟨v, hv, ha⟩ := menu (xs := xs.map V.str) (i := r) h0 h1
      obtain ⟨x, hx, rfl⟩ := List.mem_map.mp hv
      refine ⟨L, _, _, _, rfl, rfl, SqL.of hl3, ha, ?_⟩
      have px := hxs x hx
      refine ⟨by show 6 ≤ sizeLine; decide, fun p hp => ?_⟩
      have pd := D3.ne hp
      refine ⟨_, rfl, d, 6, n + 30 - 3 * i - 2, rfl, by decide, by decide, (D3.upd pd.symm).less (by omega), fun r1 H4 h01 h11 k4 D4 => ?_⟩
      obtain ⟨v, hv, ha⟩ := menu (xs := [V.str "a", V.str "/", V.str "a/", V.str "/b", V.str "b/a", V.str "//"]) (i := r1) h01 (by show r1 < 6; omega)
      obtain ⟨z, rfl, hz1, hz2⟩ : ∃ z : Str, v = .str z ∧ sgn4 z = true ∧ z.length ≤ 3 := by
        simp only [List.mem_cons, List.not_mem_nil, or_false] at hv
        rcases hv with rfl | rfl | rfl | rfl | rfl | rfl <;> exact ⟨_, rfl, by decide +kernel, by decide +kernel⟩
      refine ⟨p, _, _, _, rfl, rfl, SqL.of (k4 _ _ upd_same pd), ha, ?_⟩
      have hp3 : p ≠ L := fun e => by rw [e, hl3] at hp; cases hp
      have hl4 : H4 L = some (.lst (xs.map V.str)) := k4 _ _ (by rw [upd_ne hp3.symm]; exact hl3) hdL
      have pxz := px.app hz1 hz2
      have hl1 := pxz.2.2
      rw [Str.length_append] at hl1
      have hs1 : ("/" : Str).length = 1 := by decide +kernel
      have pz : PathQ (1 + 3) (("/" : Str) ++ z) := (PathQ.app (m := 1) (x := ("/" : Str)) ⟨⟨[], by decide +kernel⟩, by decide +kernel, by decide +kernel⟩ hz1 hz2)
      refine ⟨_, rfl, .inl ⟨rfl, _, .inl (.inl hl4)⟩, ?_⟩
      refine ⟨_, rfl, _, rfl, _, _, rfl, rfl, Nat.le_trans (by omega : _ ≤ 1000) (by decide), _, rfl, _, _, rfl, rfl, Nat.le_trans (by omega : _ ≤ 1000) (by decide), ?_⟩
      refine ⟨_, rfl, _, rfl, _, _, rfl, rfl, Nat.le_trans (by omega : _ ≤ 1000) (by decide), x ++ z, rfl, pxz.path (by omega), fun y H5 s5 ey => ?_⟩
      have py := pxz.dflt ey
      have hl5 := s5 _ _ hl4
      refine ⟨by show 3 ≤ sizeLine; decide, fun p2 hp2 => ?_⟩
      have D5 := D4.same s5
      have pd2 := D5.ne hp2
      refine ⟨_, rfl, d, 3, n + 30 - 3 * i - 3, rfl, by decide, by decide, (D5.upd pd2.symm).less (by omega), fun r2 H6 h02 h12 k6 D6 => ?_⟩
      obtain ⟨v, hv, ha⟩ := menu (xs := [V.str (x ++ z), V.str (("/" : Str) ++ z), V.str y]) (i := r2) h02 (by show r2 < 3; omega)
      obtain ⟨u, rfl, pu⟩ : ∃ u : Str, v = .str u ∧ PathQ (1 + 3 * (i + 1)) u := by
        simp only [List.mem_cons, List.not_mem_nil, or_false] at hv
        rcases hv with rfl | rfl | rfl
        · exact ⟨_, rfl, pxz.more (by omega)⟩
        · exact ⟨_, rfl, pz.more (by omega)⟩
        · exact ⟨_, rfl, py.more (by omega)⟩
      refine ⟨p2, _, _, _, rfl, rfl, SqL.of (k6 _ _ upd_same pd2), ha, ?_⟩
      have hp4 : p2 ≠ L := fun e => by rw [e, hl5] at hp2; cases hp2
      have hl6 : H6 L = some (.lst (xs.map V.str)) := k6 _ _ (by rw [upd_ne hp4.symm]; exact hl5) hdL
      refine ⟨L, _, _, rfl, rfl, hl6, Nat.lt_of_le_of_lt (by rw [List.length_map]; omega : _ ≤ 1000) (by decide), ?_⟩
      refine ⟨xs ++ [u], _, _, _, rfl, by rw [List.length_append, hlen]; rfl, List.mem_append_left _ hsl, fun w hw => ?_, by rw [upd_same, List.map_append]; rfl, ?_, (D6.less (by omega)).upd hdL.symm⟩
      · rcases List.mem_append.mp hw with q | q
        · exact (hxs w q).more (by omega)
        · rw [List.mem_singleton.mp q]; exact pu
      · exact (((k2.trans k3).trans (Same.then (Same.new hp) k4)).trans (Same.then s5 (Same.then (Same.new hp2) k6))).updN hL
    · rintro σ H2 ⟨xs, v1, v2, v3, rfl, hlen, hsl, hxs, hl, k2, D2⟩
      exact ⟨_, rfl, hQ _ xs _ hlen hsl (fun x hx => (hxs x hx).more (by decide)) k2 hl hL (D2.less (by omega))⟩
theorem ok__law_down (T : Txt K mg) : Cal P w K mg base CX0 5 "_law_down" ["path"] sp__law_down := by
  refine T.d__law_down.ok0 sc__law_down (fun vs H Q E h => ?_) (fun f cdv A outer s H vs Q E hr h => ?_)
  · first | (obtain ⟨_, rfl, _⟩ := h; rfl) | (obtain ⟨_, _, rfl, _⟩ := h; rfl) | (obtain ⟨_, _, _, rfl, _⟩ := h; rfl) | (obtain ⟨_, _, _, _, rfl, _⟩ := h; rfl) | (obtain ⟨_, _, _, _, _, rfl, _⟩ := h; rfl)
  · refine ⟨_, (pss_cons (ps_set (i := 1) sc__law_down.nd rfl (by first | exact Or.inl rfl | exact Or.inr rfl) (pe_lst (pa_cons (pv 0) pa_nil)))
      (pss_cons (ps_for PassesOwn.never rfl (pi_range1 (by rfl) T.b_range (pa_cons (pe_callB call_len_str (by rfl) T.b_len (by decide +kernel) (pa_cons (pv 0) pa_nil)) pa_nil)) (pg_name (i := 2) sc__law_down.nd rfl (by first | exact Or.inl rfl | exact Or.inr rfl))
      (pss_one (ps_expr (pe_bm PySem.F.plainAttrs_list PySem.F.slot_list_append PySem.F.type_list_append mt_append (pv 1) (pa_cons (pe_c (ok_default_path T) hr (by decide) (by rfl) pass0 (pa_cons (pe_ix ix_list (pv 1) (pe_un un_neg pe_int) (fun _ _ => rfl)) pa_nil)) pa_nil)))))
      (pss_one (ps_ret (pv 1))))), ?_⟩
    obtain ⟨x, rfl, px, hQ⟩ := h
    have hxl := px.2.2
    refine ⟨_, rfl, by show 1 ≤ sizeLine; decide, fun L hL => ?_⟩
    refine ⟨_, rfl, x, rfl, Nat.le_trans hxl (by decide), _, rfl, by omega, by omega, for_range (n := ((x.length : Nat) : Int).toNat) (fun i σ H2 => ∃ (xs : List Str) (z : Str) (v1 : Option V), σ = [some (.str x), some (.ref L), v1] ∧ xs.length = i ∧ ((tl z).length + i ≤ x.length ∨ tl z = [47]) ∧ (∀ y ∈ xs ++ [z], PathQ 30 y ∧ pfB (tl x) (tl y) = true) ∧ H2 L = some (.lst ((xs ++ [z]).map V.str)) ∧ Same H H2) ⟨[], x, none, rfl, rfl, .inl (by rw [len_tl]; omega), fun y hy => by rw [List.mem_singleton.mp hy]; exact ⟨px, pf_self _⟩, upd_same, Same.new hL⟩ ?_ ?_⟩
    · rintro i σ H2 hi ⟨xs, z, v1, rfl, hlen, hz, hxs, hl, s2⟩
      rw [Int.toNat_natCast] at hi
      obtain ⟨pz, fz⟩ := hxs z (by simp)
      have ha : atI ((xs ++ [z]).map V.str) (-1) = some (.str z) := by rw [List.map_append]; exact atI_last _ _
      refine ⟨_, rfl, .inl ⟨rfl, _, .inl (.inl hl)⟩, ?_⟩
      refine ⟨_, rfl, _, rfl, L, _, _, _, rfl, rfl, SqL.of hl, ha, z, rfl, pz.path (by decide), fun w H3 s3 ew => ?_⟩
      obtain ⟨r, er⟩ := pz.1
      refine ⟨L, _, _, rfl, rfl, s3 _ _ hl, Nat.lt_of_le_of_lt (by rw [List.length_map, List.length_append]; show _ + 1 ≤ 1000; omega : _ ≤ 1000) (by decide), ?_⟩
      refine ⟨xs ++ [z], w, _, rfl, by rw [List.length_append, hlen]; rfl, ?_, fun y hy => ?_, by rw [upd_same, List.map_append (l₁ := xs ++ [z])]; rfl, fun b o e => by rw [upd_ne (ne_of_none e hL)]; exact s3 _ _ (s2 _ _ e)⟩
      · by_cases hz1 : tl z = [47]
        · refine .inr ?_
          rw [ew, hz1]; decide
        · rcases hz with hz | hz
          · have := dflt_less er hz1
            exact .inl (by rw [ew]; omega)
          · exact absurd hz hz1
      · rcases List.mem_append.mp hy with q | q
        · exact hxs y q
        · rw [List.mem_singleton.mp q]
          exact ⟨pz.dflt ew, pf_trans fz (by rw [ew]; exact pf_dflt er)⟩
    · rintro σ H2 ⟨xs, z, v1, rfl, hlen, hz, hxs, hl, s2⟩
      rw [Int.toNat_natCast] at hlen hz
      obtain ⟨r, er⟩ := (hxs z (by simp)).1.1
      have e47 : tl z = [47] := by
        rcases hz with hz | hz
        · rw [er] at hz; simp at hz; omega
        · exact hz
      exact ⟨_, rfl, hQ L xs z _ s2 hl e47 hxs⟩
theorem ok_law {f : Addr} {fd : FuncData} (F : Fun K "law" "law" s_law f fd) (T : Txt K mg) : FnOk P w K mg base CX0 6 f fd ["script"] (sp_law K) := by
  refine F.ok sc_law (fun vs H Q E h => ?_) (fun cdv A outer s H vs Q E hr h => ?_)
  · first | (obtain ⟨_, rfl, _⟩ := h; rfl) | (obtain ⟨_, _, rfl, _⟩ := h; rfl) | (obtain ⟨_, _, _, rfl, _⟩ := h; rfl) | (obtain ⟨_, _, _, _, rfl, _⟩ := h; rfl) | (obtain ⟨_, _, _, _, _, rfl, _⟩ := h; rfl)
  · have hu := hu_of hr
    refine ⟨_, (pss_cons (ps_for PassesOwn.never rfl (pi_enum (by rfl) T.b_enumerate (pa_cons (pe_op op_cat (pe_slice sl_list (pv 0) po_none (po_some pe_int)) (pe_lst (pa_cons (pe_callB (cr_sum rfl) (by rfl) T.b_sum (by decide +kernel) (pa_cons (pv 0) pa_nil)) pa_nil))) pa_nil)) (pg_tup rfl (pgs_cons (pg_name (i := 1) sc_law.nd rfl (by first | exact Or.inl rfl | exact Or.inr rfl)) (pgs_cons (pg_name (i := 2) sc_law.nd rfl (by first | exact Or.inl rfl | exact Or.inr rfl)) pgs_nil)))
      (pss_cons (ps_set (i := 3) sc_law.nd rfl (by first | exact Or.inl rfl | exact Or.inr rfl) (pe_c (ok__law_draw T) hr (by decide) (by rfl) pass0 (pa_cons (pv 2) (pa_cons (pv 1) pa_nil))))
      (pss_cons (ps_asg (pe_tup (pa_cons (pe_c (ok__law_paths T) hr (by decide) (by rfl) pass0 (pa_cons (pv 3) pa_nil)) (pa_cons pe_dnewT pa_nil))) (pg_tup rfl (pgs_cons (pg_name (i := 4) sc_law.nd rfl (by first | exact Or.inl rfl | exact Or.inr rfl)) (pgs_cons (pg_name (i := 5) sc_law.nd rfl (by first | exact Or.inl rfl | exact Or.inr rfl)) pgs_nil))))
      (pss_cons (ps_for PassesOwn.never rfl (pi_list (pv 4)) (pg_name (i := 6) sc_law.nd rfl (by first | exact Or.inl rfl | exact Or.inr rfl))
      (pss_one (ps_for PassesOwn.never rfl (pi_list (pv 4)) (pg_name (i := 7) sc_law.nd rfl (by first | exact Or.inl rfl | exact Or.inr rfl))
      (pss_one (ps_dput hu (pv 5) (pe_tup (pa_cons (pv 6) (pa_cons (pv 7) pa_nil))) (pe_c (ok_path_fits T) hr (by decide) (by rfl) pass0 (pa_cons (pv 6) (pa_cons (pv 7) pa_nil))) rfl)))))
      (pss_one (ps_for PassesOwn.never rfl (pi_list (pv 4)) (pg_name (i := 6) sc_law.nd rfl (by first | exact Or.inl rfl | exact Or.inr rfl))
      (pss_cons (ps_if (PW.pt (pw_or (pt_cmpR (op_notBl) (pe_dget hu (pv 5) (pe_tup (pa_cons (pv 6) (pa_cons (pv 6) pa_nil))) (fun _ _ => rfl)) pe_bl (nomark _)) (pw_or1 (pt_cmpR (op_notBl) (pe_dget hu (pv 5) (pe_tup (pa_cons (pv 6) (pa_cons pe_str pa_nil))) (fun _ _ => rfl)) pe_bl (nomark _)))))
      (pss_one (ps_ret pe_bl))
      pss_nil)
      (pss_cons (ps_set (i := 8) sc_law.nd rfl (by first | exact Or.inl rfl | exact Or.inr rfl) (pe_c (ok__law_down T) hr (by decide) (by rfl) pass0 (pa_cons (pv 6) pa_nil)))
      (pss_cons (ps_if (PW.pt (pw_or (pt_cmpR (op_ne) (pe_ix ix_list (pv 8) (pe_un un_neg pe_int) (fun _ _ => rfl)) pe_str (nomark _)) (pw_or1 (pt_cmpR (op_neD hr.units) (pe_lc (own := [(("one" : Str), 10)]) rfl sc_law.nd (pi_list (pv 8)) (blkOk_by (N := ["script", "k", "amount", "draw", "paths", "fits", "p", "q", "down", "some", "one"]) (sc := defScope s_law) (by decide +kernel)) (fun _ _ _ _ _ => (pg_name (i := 10) sc_law.nd rfl (by first | exact Or.inl rfl | exact Or.inr rfl))) (fun _ _ _ _ _ => (pts_one (pt_cmpR (op_notBl) (pe_c (ok_path_fits T) hr (by decide) (by rfl) pass0 (pa_cons (pv 6) (pa_cons (pv 10) pa_nil))) pe_bl (nomark _)))) (fun _ _ _ _ _ => (pv 10))) (pe_lst pa_nil) (nomark _)))))
      (pss_one (ps_ret pe_bl))
      pss_nil)
      (pss_cons (ps_setLc (i := 9) (own := [(("q" : Str), 7)]) rfl sc_law.nd rfl rfl (sw_true rfl rfl rfl (by decide +kernel)) (pi_list (pv 4)) (blkOk_by (N := ["script", "k", "amount", "draw", "paths", "fits", "p", "q", "down", "some", "one"]) (sc := defScope s_law) (by decide +kernel)) (fun _ _ _ _ _ => (pg_name (i := 7) sc_law.nd rfl (by first | exact Or.inl rfl | exact Or.inr rfl))) (fun _ _ _ _ _ => (pts_one (pt_val (pe_dget hu (pv 5) (pe_tup (pa_cons (pv 6) (pa_cons (pv 7) pa_nil))) (fun _ _ => rfl))))) (fun _ _ _ _ _ => (pv 7)))
      (pss_one (ps_for PassesOwn.never rfl (pi_list (pv 9)) (pg_name (i := 7) sc_law.nd rfl (by first | exact Or.inl rfl | exact Or.inr rfl))
      (Evl.pss_cut (ps_if (PW.pt (pw_or (pt_cmpR (op_gt) (pe_callB call_len_str (by rfl) T.b_len (by decide +kernel) (pa_cons (pv 7) pa_nil)) (pe_callB call_len_str (by rfl) T.b_len (by decide +kernel) (pa_cons (pv 6) pa_nil)) (nomark _)) (pw_or1 (PW.pt (pw_and (pt_val (pe_dget hu (pv 5) (pe_tup (pa_cons (pv 7) (pa_cons (pv 6) pa_nil))) (fun _ _ => rfl))) (pw_and1 (pt_cmpR (op_ne) (pv 6) (pv 7) (nomark _))))))))
      (pss_one (ps_ret pe_bl))
      pss_nil)
      (pss_cons (ps_if (pt_cmpR (op_neD hr.units) (pe_lc (own := [(("one" : Str), 10)]) rfl sc_law.nd (pi_list (pv 9)) (blkOk_by (N := ["script", "k", "amount", "draw", "paths", "fits", "p", "q", "down", "some", "one"]) (sc := defScope s_law) (by decide +kernel)) (fun _ _ _ _ _ => (pg_name (i := 10) sc_law.nd rfl (by first | exact Or.inl rfl | exact Or.inr rfl))) (fun _ _ _ _ _ => (pts_one (PW.pt (pw_and (pt_not (pt_val (pe_dget hu (pv 5) (pe_tup (pa_cons (pv 7) (pa_cons (pv 10) pa_nil))) (fun _ _ => rfl)))) (pw_and1 (pt_not (pt_val (pe_dget hu (pv 5) (pe_tup (pa_cons (pv 10) (pa_cons (pv 7) pa_nil))) (fun _ _ => rfl))))))))) (fun _ _ _ _ _ => (pv 10))) (pe_lst pa_nil) (nomark _))
      (pss_one (ps_ret pe_bl))
      pss_nil)
      (pss_one (ps_if (pt_cmpR (op_neD hr.units) (pe_lc (own := [(("one" : Str), 10)]) rfl sc_law.nd (pi_list (pv 4)) (blkOk_by (N := ["script", "k", "amount", "draw", "paths", "fits", "p", "q", "down", "some", "one"]) (sc := defScope s_law) (by decide +kernel)) (fun _ _ _ _ _ => (pg_name (i := 10) sc_law.nd rfl (by first | exact Or.inl rfl | exact Or.inr rfl))) (fun _ _ _ _ _ => (pts_one (PW.pt (pw_and (pt_val (pe_dget hu (pv 5) (pe_tup (pa_cons (pv 7) (pa_cons (pv 10) pa_nil))) (fun _ _ => rfl))) (pw_and1 (pt_not (pt_val (pe_dget hu (pv 5) (pe_tup (pa_cons (pv 6) (pa_cons (pv 10) pa_nil))) (fun _ _ => rfl))))))))) (fun _ _ _ _ _ => (pv 10))) (pe_lst pa_nil) (nomark _))
      (pss_one (ps_ret pe_bl))
      pss_nil))))))))))))))))
      (pss_one (ps_ret pe_bl))), ?_⟩
    obtain ⟨a0, ns, rfl, hS, hlen, hQ⟩ := h
    refine ⟨_, rfl, 5, rfl, a0, _, rfl, hS, fun p hp => ?_⟩
    have s1 : Same H (upd H p (.lst (cutV (ns.map V.int) none (some 5)))) := Same.new hp
    refine ⟨_, rfl, a0, ns, rfl, s1.seq hS, by show 1 ≤ sizeLine; decide, fun p2 hp2 => ?_⟩
    have s2 := Same.new (o := HO.lst [V.int ns.sum]) hp2
    have hc6 : cutV (ns.map V.int) none (some 5) = (ns.take 5).map V.int := by
      rw [cutV_to _ (by decide), List.map_take]; rfl
    rw [hc6] at s1 s2 ⊢
    have l6 : (ns.take 5).length ≤ 5 := by rw [List.length_take]; omega
    refine ⟨_, _, _, _, rfl, rfl, s2 _ _ upd_same, upd_same, Nat.le_trans (by rw [List.length_map]; show _ + 1 ≤ 100; omega) (by decide : 100 ≤ sizeLine), fun p3 hp3 => ?_⟩
    have s3 := Same.new (o := HO.lst ((ns.take 5).map V.int ++ [V.int ns.sum])) hp3
    have hm : upd (upd (upd H p (.lst ((ns.take 5).map V.int))) p2 (.lst [V.int ns.sum])) p3 (.lst ((ns.take 5).map V.int ++ [V.int ns.sum])) p3 = some (.lst ((ns.take 5).map V.int ++ [V.int ns.sum])) := upd_same
    generalize (upd (upd (upd H p (.lst ((ns.take 5).map V.int))) p2 (.lst [V.int ns.sum])) p3 (.lst ((ns.take 5).map V.int ++ [V.int ns.sum]))) = Hb at hm ⊢
    have hxs : ∀ i x, ((ns.take 5).map V.int ++ [V.int ns.sum])[i]? = some x → i ≤ 5 ∧ ∃ z : Int, x = .int z := fun i x hi => by
      have h1 := (List.getElem?_eq_some_iff.mp hi).1
      have h2 := List.mem_of_getElem? hi
      rw [List.length_append, List.length_map, List.length_singleton] at h1
      refine ⟨by omega, ?_⟩
      rw [List.mem_append, List.mem_map, List.mem_singleton] at h2
      rcases h2 with ⟨z, _, rfl⟩ | rfl <;> exact ⟨_, rfl⟩
    generalize ((ns.take 5).map V.int ++ [V.int ns.sum]) = xs at hm hxs
    refine ⟨p3, xs, rfl, SqL.of hm, for_enum (K := K) (a := p3) (xs := xs) (fun i σ H' => ∃ v1 v2 v3 v4 v5 v6 v7 v8 v9 v10 : Option V, σ = [some (.ref a0), v1, v2, v3, v4, v5, v6, v7, v8, v9, v10] ∧ Same Hb H')
      ⟨none, none, none, none, none, none, none, none, none, none, rfl, Same.refl _⟩ (fun i σ H' _ ⟨_, _, _, _, _, _, _, _, _, _, _, q⟩ => SqL.of (q _ _ hm)) ?_ ?_⟩
    · rintro i x T σ H1 hi ⟨v1, v2, v3, v4, v5, v6, v7, v8, v9, v10, rfl, sb⟩ hT
      obtain ⟨hi6, z, rfl⟩ := hxs i x hi
      refine ⟨T, _, rfl, SqT.of upd_same, rfl, _, _, rfl, _, _, rfl, rfl, ?_⟩
      have sT := sb.trans (Same.new (o := HO.tup [V.int (i : Nat), V.int z]) hT)
      refine ⟨_, rfl, _, rfl, z, i, rfl, by omega, by omega, fun d H2 sd hd D => ?_⟩
      have hbd : Hb d = none := sT.free hd
      have sb2 : Same Hb H2 := sT.trans sd
      -- paths, fits
      refine ⟨_, rfl, d, 100000, rfl, D.less (by decide), fun P ps H3 hlen hsl hps k3 hP hP0 D3 => ?_⟩
      have sb3 : Same Hb H3 := fun b o e => k3 b o (sb2 b o e) (ne_of_none e hbd)
      intro F hF0
      have hPF : P ≠ F := fun e => by rw [← e, hP] at hF0; cases hF0
      have sF := Same.new (o := HO.dT []) hF0
      refine ⟨by show 2 ≤ sizeLine; decide, fun t0 ht0 => ?_⟩
      have st0 := Same.new (o := HO.tup [V.ref P, V.ref F]) ht0
      refine ⟨t0, _, rfl, SqT.of upd_same, rfl, _, _, rfl, _, _, rfl, rfl, ?_⟩
      have hbF : Hb F = none := sb3.free hF0
      have sb4 : Same Hb (upd (upd H3 F (.dT [])) t0 (.tup [V.ref P, V.ref F])) := (sb3.trans sF).trans st0
      have hP4 := st0 _ _ (sF _ _ hP)
      have hF4 := st0 _ _ (upd_same (H := H3) (a := F) (o := HO.dT []))
      generalize (upd (upd H3 F (.dT [])) t0 (.tup [V.ref P, V.ref F])) = Hc at sb4 hP4 hF4 ⊢
      have path := fun x hx => (hps x hx).path (by decide)
      -- fits[p, q] = path_fits(p, q)
      refine ⟨_, rfl, P, rfl, ⟨_, SqL.of hP4⟩, for_list (K := K) (a := P) (xs := ps.map V.str) (fun i1 σ H5 => ∃ (v6 v7 v8 v9 v10 : Option V) (kvs : List (List Key × V)), σ = [some (.ref a0), some (.int (i : Nat)), some (.int z), some (.ref d), some (.ref P), some (.ref F), v6, v7, v8, v9, v10] ∧ Keep F Hc H5 ∧ H5 F = some (.dT kvs) ∧ kvs.length ≤ 7 * i1 ∧ ∀ p ∈ ps.take i1, ∀ q ∈ ps, Gd kvs p q)
        ⟨v6, v7, v8, v9, v10, [], rfl, Keep.refl, hF4, by simp, by simp⟩ (fun i1 σ H5 _ ⟨_, _, _, _, _, _, _, k, _⟩ => SqL.of (k _ _ hP4 hPF)) ?_ ?_⟩
      · rintro i1 v σ H5 hi1 ⟨v6, v7, v8, v9, v10, kvs, rfl, k5, hF5, hk5, g5⟩
        obtain ⟨p, hp, rfl⟩ := strAt hi1
        have hpm := List.mem_of_getElem? hp
        refine ⟨_, rfl, P, rfl, ⟨_, SqL.of (k5 _ _ hP4 hPF)⟩, for_list (K := K) (a := P) (xs := ps.map V.str) (fun j1 σ H6 => ∃ (v7 v8 v9 v10 : Option V) (kvs : List (List Key × V)), σ = [some (.ref a0), some (.int (i : Nat)), some (.int z), some (.ref d), some (.ref P), some (.ref F), some (.str p), v7, v8, v9, v10] ∧ Keep F Hc H6 ∧ H6 F = some (.dT kvs) ∧ kvs.length ≤ 7 * i1 + j1 ∧ (∀ p ∈ ps.take i1, ∀ q ∈ ps, Gd kvs p q) ∧ ∀ q ∈ ps.take j1, Gd kvs p q)
          ⟨v7, v8, v9, v10, kvs, rfl, k5, hF5, hk5, g5, by simp⟩ (fun j1 σ H6 _ ⟨_, _, _, _, _, _, k, _⟩ => SqL.of (k _ _ hP4 hPF)) ?_ ?_⟩
        · rintro j1 v σ H6 hj1 ⟨v7, v8, v9, v10, kvs, rfl, k6, hF6, hk6, g6, g7⟩
          obtain ⟨q, hq, rfl⟩ := strAt hj1
          have hqm := List.mem_of_getElem? hq
          have hj7 := (List.getElem?_eq_some_iff.mp hq).1
          have hi7 := (List.getElem?_eq_some_iff.mp hp).1
          refine ⟨_, rfl, _, rfl, p, q, rfl, path p hpm, path q hqm, ?_⟩
          refine ⟨_, rfl, _, rfl, _, rfl, by show 2 ≤ sizeLine; decide, fun t ht => ?_⟩
          have st := Same.new (o := HO.tup [V.str p, V.str q]) ht
          have hF7 := st _ _ hF6
          refine ⟨F, _, rfl, DPut.t (k := [(Sum.inr p : Key), (Sum.inr q : Key)]) hF7 upd_same (Nat.lt_of_le_of_lt (by omega : _ ≤ 1000) (by decide)), ?_⟩
          refine ⟨_, _, _, _, _, rfl, (k6.same st).upd, upd_same, by have := length_putK kvs [(Sum.inr p : Key), (Sum.inr q : Key)] (V.bl (pfB (tl p) (tl q))); omega, fun p' hp' q' hq' => gd_keep (g6 p' hp' q' hq'), fun q' hq' => ?_⟩
          rcases take_mem hq hq' with h | rfl
          · exact gd_keep (g7 q' h)
          · exact gd_put _ _ _
        · rintro σ H6 ⟨v7, v8, v9, v10, kvs, rfl, k6, hF6, hk6, g6, g7⟩
          rw [List.length_map, List.take_length] at g7
          rw [List.length_map] at hk6
          refine ⟨_, _, _, _, _, kvs, rfl, k6, hF6, by omega, fun p' hp' q' hq' => ?_⟩
          rcases take_mem hp hp' with h | rfl
          · exact g6 p' h q' hq'
          · exact g7 q' hq'
      -- the checks
      rintro σ H5 ⟨v6, v7, v8, v9, v10, kvs, rfl, k5, hF5, hk5, g5⟩
      rw [List.length_map, List.take_length] at g5
      have hP5 := k5 _ _ hP4 hPF
      have sb5 : Same Hb H5 := fun b o e => k5 b o (sb4 b o e) (ne_of_none e hbF)
      refine ⟨_, rfl, P, rfl, ⟨_, SqL.of hP5⟩, for_list (K := K) (a := P) (xs := ps.map V.str) (fun i1 σ H6 => ∃ (v6 v7 v8 v9 v10 : Option V), σ = [some (.ref a0), some (.int (i : Nat)), some (.int z), some (.ref d), some (.ref P), some (.ref F), v6, v7, v8, v9, v10] ∧ Same H5 H6)
        ⟨v6, v7, v8, v9, v10, rfl, Same.refl _⟩ (fun i1 σ H6 _ ⟨_, _, _, _, _, _, k⟩ => SqL.of (k _ _ hP5)) ?_ ?_⟩
      · rintro i1 v σ H6 hi1 ⟨v6, v7, v8, v9, v10, rfl, s6⟩
        obtain ⟨p, hp, rfl⟩ := strAt hi1
        have hpm := List.mem_of_getElem? hp
        obtain ⟨r, er⟩ := (hps p hpm).1
        -- fits[p, p], fits[p, '/']
        refine ⟨_, rfl, _, rfl, _, rfl, by show 2 ≤ sizeLine; decide, fun t1 ht1 => ?_⟩
        have st1 := Same.new (o := HO.tup [V.str p, V.str p]) ht1
        refine ⟨F, _, rfl, gd_get (st1 _ _ (s6 _ _ hF5)) upd_same (g5 p hpm p hpm), ?_⟩
        rw [pf_self]
        refine ⟨_, _, rfl, rfl, _, rfl, ?_⟩
        refine ⟨_, rfl, _, rfl, by show 2 ≤ sizeLine; decide, fun t2 ht2 => ?_⟩
        have st2 := Same.new (o := HO.tup [V.str p, V.str "/"]) ht2
        have s8 := (s6.trans st1).trans st2
        refine ⟨F, _, rfl, gd_get (s8 _ _ hF5) upd_same (g5 p hpm _ hsl), ?_⟩
        rw [tl_slash, pf_slash er]
        refine ⟨_, _, rfl, rfl, _, rfl, ?_⟩
        generalize (upd (upd H6 t1 (.tup [V.str p, V.str p])) t2 (.tup [V.str p, V.str "/"])) = H8 at s8 ⊢
        -- down
        refine ⟨_, rfl, p, rfl, hps p hpm, fun dn ds w H9 s9 hdn ew hds => ?_⟩
        have s9a := s8.trans s9
        have ha : atI ((ds ++ [w]).map V.str) (-1) = some (.str w) := by rw [List.map_append]; exact atI_last _ _
        refine ⟨_, rfl, _, rfl, dn, _, _, _, rfl, rfl, SqL.of hdn, ha, rfl, _, rfl, iteNS (by rw [show w = ("/" : Str) from ext_tl (by rw [ew, tl_slash])]) ?_⟩
        refine ⟨_, rfl, dn, rfl, ⟨_, SqL.of hdn⟩, fun D1 hD1 => lc_list (K := K) (a := dn) (xs := (ds ++ [w]).map V.str) (fun j H10 => H10 D1 = some (.lst []) ∧ Same H9 H10) ⟨upd_same, Same.new hD1⟩ (fun j H10 _ ⟨_, s⟩ => SqL.of (s _ _ hdn)) ?_ ?_⟩
        · rintro j v H10 hj ⟨hD10, s10⟩
          obtain ⟨o, ho, rfl⟩ := strAt hj
          obtain ⟨po, fo⟩ := hds o (List.mem_of_getElem? ho)
          refine ⟨rfl, _, rfl, _, rfl, p, o, rfl, path p hpm, po.path (by decide), ?_⟩
          rw [fo]
          exact ⟨_, _, rfl, rfl, _, rfl, hD10, s10⟩
        rintro H10 ⟨hD10, s10⟩
        refine ⟨by show 0 ≤ sizeLine; decide, fun D2 hD2 => ?_⟩
        have s11 := Same.new (o := HO.lst []) hD2
        refine ⟨_, _, dp_strs (ys := []) (SqL.of (s11 _ _ hD10)), dp_strs (ys := []) (SqL.of upd_same), shaped_strs (by simp), shaped_strs (by simp), _, rfl, ?_⟩
        rw [show PyData.eqv (.list (([] : List Str).map PyData.str)) (.list (([] : List Str).map PyData.str)) = true by rw [PyData.eqv, eqvAll_strs]; rfl]
        refine iteF ?_
        have s12 := (s9a.trans s10).trans s11
        generalize (upd H10 D2 (.lst [])) = H12 at s12 ⊢
        -- some
        refine ⟨_, rfl, P, rfl, ⟨_, SqL.of (s12 _ _ hP5)⟩, fun D3 hD3 => lc_list (K := K) (a := P) (xs := ps.map V.str) (fun j H13 => ∃ ys : List Str, H13 D3 = some (.lst (ys.map V.str)) ∧ ys.length ≤ j ∧ (∀ y ∈ ys, y ∈ ps ∧ pfB (tl p) (tl y) = true) ∧ Same H12 H13) ⟨[], upd_same, by simp, by simp, Same.new hD3⟩ (fun j H13 _ ⟨_, _, _, _, s⟩ => SqL.of (s _ _ (s12 _ _ hP5))) ?_ ?_⟩
        · rintro j v H13 hj ⟨ys, hD13, hy1, hy2, s13⟩
          obtain ⟨q, hq, rfl⟩ := strAt hj
          have hqm := List.mem_of_getElem? hq
          have hj7 := (List.getElem?_eq_some_iff.mp hq).1
          refine ⟨rfl, _, rfl, _, rfl, _, rfl, by show 2 ≤ sizeLine; decide, fun t ht => ?_⟩
          have st := Same.new (o := HO.tup [V.str p, V.str q]) ht
          refine ⟨F, _, rfl, gd_get (st _ _ (s13 _ _ (s12 _ _ hF5))) upd_same (g5 p hpm q hqm), _, rfl, iteB (fun hf => ?_) (fun hf => ?_)⟩
          · refine ⟨_, rfl, _, st _ _ hD13, Nat.lt_of_le_of_lt (by rw [List.length_map]; omega : _ ≤ 1000) (by decide), ys ++ [q], by rw [upd_same, List.map_append]; rfl, by rw [List.length_append]; show _ + 1 ≤ _; omega, fun y hy => ?_, fun b o e => by rw [upd_ne (ne_of_none e hD3)]; exact st _ _ (s13 _ _ e)⟩
            rcases List.mem_append.mp hy with h | h
            · exact hy2 y h
            · rw [List.mem_singleton.mp h]; exact ⟨hqm, hf⟩
          · exact ⟨ys, st _ _ hD13, by omega, hy2, s13.trans st⟩
        rintro H13 ⟨ys, hD13, hy1, hy2, s13⟩
        have s13a := s12.trans s13
        refine ⟨_, rfl, D3, rfl, ⟨_, SqL.of hD13⟩, for_list (K := K) (a := D3) (xs := ys.map V.str) (fun j σ H14 => ∃ (v7 v10 : Option V), σ = [some (.ref a0), some (.int (i : Nat)), some (.int z), some (.ref d), some (.ref P), some (.ref F), some (.str p), v7, some (.ref dn), some (.ref D3), v10] ∧ Same H13 H14)
          ⟨v7, v10, rfl, Same.refl _⟩ (fun j σ H14 _ ⟨_, _, _, s⟩ => SqL.of (s _ _ hD13)) ?_ ?_⟩
        · rintro j v σ H14 hj ⟨v7, v10, rfl, s14⟩
          obtain ⟨q, hq, rfl⟩ := strAt hj
          obtain ⟨hqm, fq⟩ := hy2 q (List.mem_of_getElem? hq)
          have hpl := (hps p hpm).2.2
          have hql := (hps q hqm).2.2
          have hle := (pf_pre fq).length_le
          rw [← len_tl, ← len_tl] at hle
          have s14a := s13a.trans s14
          refine ⟨fun σ' H' => ∃ (v7 v10 : Option V), σ' = [some (.ref a0), some (.int (i : Nat)), some (.int z), some (.ref d), some (.ref P), some (.ref F), some (.str p), some (.str q), some (.ref dn), some (.ref D3), v10] ∧ Same H13 H', ?_, ?_⟩
          · refine ⟨_, rfl, q, rfl, Nat.le_trans hql (by decide), _, rfl, p, rfl, Nat.le_trans hpl (by decide), _, _, rfl, rfl, _, rfl, ?_⟩
            rw [decide_eq_false (by omega : ¬ (p.length : Int) < (q.length : Int))]
            refine iteF ?_
            refine ⟨_, rfl, _, rfl, _, rfl, by show 2 ≤ sizeLine; decide, fun t ht => ?_⟩
            have st := Same.new (o := HO.tup [V.str q, V.str p]) ht
            have s15 := s14a.trans st
            refine ⟨F, _, rfl, gd_get (s15 _ _ hF5) upd_same (g5 q hqm p hpm), _, rfl, ?_⟩
            cases hqp : pfB (tl q) (tl p) with
            | false => exact iteF ⟨none, v10, rfl, s14.trans st⟩
            | true =>
              refine iteT ⟨_, rfl, _, rfl, rfl, _, rfl, ?_⟩
              have e : p = q := ext_tl (pf_anti fq hqp)
              exact iteNS (by rw [e]) ⟨none, v10, rfl, s14.trans st⟩
          · rintro σ' H15 ⟨v7, v10, rfl, s15⟩
            have s15a := s13a.trans s15
            refine ⟨_, rfl, D3, rfl, ⟨_, SqL.of (s15 _ _ hD13)⟩, fun D4 hD4 => lc_list (K := K) (a := D3) (xs := ys.map V.str) (fun m H16 => H16 D4 = some (.lst []) ∧ Same H15 H16) ⟨upd_same, Same.new hD4⟩ (fun m H16 _ ⟨_, s⟩ => SqL.of (s _ _ (s15 _ _ hD13))) ?_ ?_⟩
            · rintro m v H16 hm2 ⟨hD16, s16⟩
              obtain ⟨o, ho, rfl⟩ := strAt hm2
              obtain ⟨hom, fo⟩ := hy2 o (List.mem_of_getElem? ho)
              refine ⟨rfl, _, rfl, _, rfl, _, rfl, by show 2 ≤ sizeLine; decide, fun t ht => ?_⟩
              have st := Same.new (o := HO.tup [V.str q, V.str o]) ht
              have s17 := (s15a.trans s16).trans st
              refine ⟨F, _, rfl, gd_get (s17 _ _ hF5) upd_same (g5 q hqm o hom), _, rfl, ?_⟩
              cases hqo : pfB (tl q) (tl o) with
              | true => exact ⟨st _ _ hD16, s16.trans st⟩
              | false =>
                refine iteT ⟨_, rfl, _, rfl, _, rfl, by show 2 ≤ sizeLine; decide, fun t2 ht2 => ?_⟩
                have st2 := Same.new (o := HO.tup [V.str o, V.str q]) ht2
                refine ⟨F, _, rfl, gd_get (st2 _ _ (s17 _ _ hF5)) upd_same (g5 o hom q hqm), _, rfl, ?_⟩
                have hoq : pfB (tl o) (tl q) = true := by
                  rcases Nat.le_total (tl q).length (tl o).length with g | g
                  · exact pf_comp fq fo g
                  · rw [pf_comp fo fq g] at hqo; cases hqo
                rw [hoq]
                exact ⟨st2 _ _ (st _ _ hD16), (s16.trans st).trans st2⟩
            rintro H16 ⟨hD16, s16⟩
            refine ⟨by show 0 ≤ sizeLine; decide, fun D5 hD5 => ?_⟩
            have s17 := Same.new (o := HO.lst []) hD5
            refine ⟨_, _, dp_strs (ys := []) (SqL.of (s17 _ _ hD16)), dp_strs (ys := []) (SqL.of upd_same), shaped_strs (by simp), shaped_strs (by simp), _, rfl, ?_⟩
            rw [show PyData.eqv (.list (([] : List Str).map PyData.str)) (.list (([] : List Str).map PyData.str)) = true by rw [PyData.eqv, eqvAll_strs]; rfl]
            refine iteF ?_
            have s17a := (s15.trans s16).trans s17
            generalize (upd H16 D5 (.lst [])) = H17 at s17a ⊢
            have s17b := s13a.trans s17a
            refine ⟨_, rfl, P, rfl, ⟨_, SqL.of (s17b _ _ hP5)⟩, fun D6 hD6 => lc_list (K := K) (a := P) (xs := ps.map V.str) (fun m H18 => H18 D6 = some (.lst []) ∧ Same H17 H18) ⟨upd_same, Same.new hD6⟩ (fun m H18 _ ⟨_, s⟩ => SqL.of (s _ _ (s17b _ _ hP5))) ?_ ?_⟩
            · rintro m v H18 hm2 ⟨hD18, s18⟩
              obtain ⟨o, ho, rfl⟩ := strAt hm2
              have hom := List.mem_of_getElem? ho
              refine ⟨rfl, _, rfl, _, rfl, _, rfl, by show 2 ≤ sizeLine; decide, fun t ht => ?_⟩
              have st := Same.new (o := HO.tup [V.str q, V.str o]) ht
              have s19 := (s17b.trans s18).trans st
              refine ⟨F, _, rfl, gd_get (s19 _ _ hF5) upd_same (g5 q hqm o hom), _, rfl, ?_⟩
              cases hqo : pfB (tl q) (tl o) with
              | false => exact ⟨st _ _ hD18, s18.trans st⟩
              | true =>
                refine iteT ⟨_, rfl, _, rfl, _, rfl, by show 2 ≤ sizeLine; decide, fun t2 ht2 => ?_⟩
                have st2 := Same.new (o := HO.tup [V.str p, V.str o]) ht2
                refine ⟨F, _, rfl, gd_get (st2 _ _ (s19 _ _ hF5)) upd_same (g5 p hpm o hom), _, rfl, ?_⟩
                rw [pf_trans fq hqo]
                exact ⟨st2 _ _ (st _ _ hD18), (s18.trans st).trans st2⟩
            rintro H18 ⟨hD18, s18⟩
            refine ⟨by show 0 ≤ sizeLine; decide, fun D7 hD7 => ?_⟩
            have s19 := Same.new (o := HO.lst []) hD7
            refine ⟨_, _, dp_strs (ys := []) (SqL.of (s19 _ _ hD18)), dp_strs (ys := []) (SqL.of upd_same), shaped_strs (by simp), shaped_strs (by simp), _, rfl, ?_⟩
            rw [show PyData.eqv (.list (([] : List Str).map PyData.str)) (.list (([] : List Str).map PyData.str)) = true by rw [PyData.eqv, eqvAll_strs]; rfl]
            exact iteF ⟨_, _, rfl, (s17a.trans s18).trans s19⟩
        · rintro σ H14 ⟨v7, v10, rfl, s14⟩
          exact ⟨_, _, _, _, _, rfl, s13a.trans s14⟩
      · rintro σ H6 ⟨v6, v7, v8, v9, v10, rfl, s6⟩
        exact ⟨_, _, _, _, _, _, _, _, _, _, rfl, sb5.trans s6⟩
    · rintro σ H1 ⟨v1, v2, v3, v4, v5, v6, v7, v8, v9, v10, rfl, sb⟩
      exact hQ _
end
theorem bd__is_path_sign : ∀ (kV doc pm : Value) (an : Option Addr) (cdv ct : Value) (us : List Value), us.length = (["sign"] : List Str).length → bindArgs (PySem.W.fnOf "_is_path_sign" "_is_path_sign" (defArgs s__is_path_sign) (defBody s__is_path_sign) (defScope s__is_path_sign) .none kV doc pm an cdv ct) ⟨us, []⟩ = pure ((["sign"] : List Str).zip us) :=
  fun _ _ _ _ _ _ us hl => match us, hl with | [_], _ => rfl
theorem bd_is_path : ∀ (kV doc pm : Value) (an : Option Addr) (cdv ct : Value) (us : List Value), us.length = (["value"] : List Str).length → bindArgs (PySem.W.fnOf "is_path" "is_path" (defArgs s_is_path) (defBody s_is_path) (defScope s_is_path) .none kV doc pm an cdv ct) ⟨us, []⟩ = pure ((["value"] : List Str).zip us) :=
  fun _ _ _ _ _ _ us hl => match us, hl with | [_], _ => rfl
theorem bd__need_path : ∀ (kV doc pm : Value) (an : Option Addr) (cdv ct : Value) (us : List Value), us.length = (["path"] : List Str).length → bindArgs (PySem.W.fnOf "_need_path" "_need_path" (defArgs s__need_path) (defBody s__need_path) (defScope s__need_path) .none kV doc pm an cdv ct) ⟨us, []⟩ = pure ((["path"] : List Str).zip us) :=
  fun _ _ _ _ _ _ us hl => match us, hl with | [_], _ => rfl
theorem bd_path_fits : ∀ (kV doc pm : Value) (an : Option Addr) (cdv ct : Value) (us : List Value), us.length = (["path", "own"] : List Str).length → bindArgs (PySem.W.fnOf "path_fits" "path_fits" (defArgs s_path_fits) (defBody s_path_fits) (defScope s_path_fits) .none kV doc pm an cdv ct) ⟨us, []⟩ = pure ((["path", "own"] : List Str).zip us) :=
  fun _ _ _ _ _ _ us hl => match us, hl with | [_, _], _ => rfl
theorem bd__law_draw : ∀ (kV doc pm : Value) (an : Option Addr) (cdv ct : Value) (us : List Value), us.length = (["cell", "k"] : List Str).length → bindArgs (PySem.W.fnOf "_law_draw" "_law_draw" (defArgs s__law_draw) (defBody s__law_draw) (defScope s__law_draw) .none kV doc pm an cdv ct) ⟨us, []⟩ = pure ((["cell", "k"] : List Str).zip us) :=
  fun _ _ _ _ _ _ us hl => match us, hl with | [_, _], _ => rfl
theorem bd_default_path : ∀ (kV doc pm : Value) (an : Option Addr) (cdv ct : Value) (us : List Value), us.length = (["path"] : List Str).length → bindArgs (PySem.W.fnOf "default_path" "default_path" (defArgs s_default_path) (defBody s_default_path) (defScope s_default_path) .none kV doc pm an cdv ct) ⟨us, []⟩ = pure ((["path"] : List Str).zip us) :=
  fun _ _ _ _ _ _ us hl => match us, hl with | [_], _ => rfl
theorem bd__law_mixed : ∀ (kV doc pm : Value) (an : Option Addr) (cdv ct : Value) (us : List Value), us.length = (["cell", "k"] : List Str).length → bindArgs (PySem.W.fnOf "_law_mixed" "_law_mixed" (defArgs s__law_mixed) (defBody s__law_mixed) (defScope s__law_mixed) .none kV doc pm an cdv ct) ⟨us, []⟩ = pure ((["cell", "k"] : List Str).zip us) :=
  fun _ _ _ _ _ _ us hl => match us, hl with | [_, _], _ => rfl
theorem bd__law_digit : ∀ (kV doc pm : Value) (an : Option Addr) (cdv ct : Value) (us : List Value), us.length = (["draw", "span"] : List Str).length → bindArgs (PySem.W.fnOf "_law_digit" "_law_digit" (defArgs s__law_digit) (defBody s__law_digit) (defScope s__law_digit) .none kV doc pm an cdv ct) ⟨us, []⟩ = pure ((["draw", "span"] : List Str).zip us) :=
  fun _ _ _ _ _ _ us hl => match us, hl with | [_, _], _ => rfl
theorem bd__law_paths : ∀ (kV doc pm : Value) (an : Option Addr) (cdv ct : Value) (us : List Value), us.length = (["draw"] : List Str).length → bindArgs (PySem.W.fnOf "_law_paths" "_law_paths" (defArgs s__law_paths) (defBody s__law_paths) (defScope s__law_paths) .none kV doc pm an cdv ct) ⟨us, []⟩ = pure ((["draw"] : List Str).zip us) :=
  fun _ _ _ _ _ _ us hl => match us, hl with | [_], _ => rfl
theorem bd__law_down : ∀ (kV doc pm : Value) (an : Option Addr) (cdv ct : Value) (us : List Value), us.length = (["path"] : List Str).length → bindArgs (PySem.W.fnOf "_law_down" "_law_down" (defArgs s__law_down) (defBody s__law_down) (defScope s__law_down) .none kV doc pm an cdv ct) ⟨us, []⟩ = pure ((["path"] : List Str).zip us) :=
  fun _ _ _ _ _ _ us hl => match us, hl with | [_], _ => rfl
theorem bd_law : ∀ (kV doc pm : Value) (an : Option Addr) (cdv ct : Value) (us : List Value), us.length = (["script"] : List Str).length → bindArgs (PySem.W.fnOf "law" "law" (defArgs s_law) (defBody s_law) (defScope s_law) .none kV doc pm an cdv ct) ⟨us, []⟩ = pure ((["script"] : List Str).zip us) :=
  fun _ _ _ _ _ _ us hl => match us, hl with | [_], _ => rfl
theorem fin_mk {l : PySem.W.OpenLaw} {w : World} {K : PySem.W.Frag} {mg : Str → Option Value} {fa : Addr} (hfa : mg "law" = some (.ref fa)) (D : Df K mg "law" s_law ["script"]) (T : Txt K mg) :
    ∃ fd : FuncData, (∀ (s : Shared) (v : Value), BindsTo s fd ⟨[v], []⟩ [("script", v)]) ∧ ∀ base : Heap, K.In base → base.Ns PySem.mainGlobals mg → FnOk l.prog w K mg base CX0 6 fa fd ["script"] (sp_law K) := by
  obtain ⟨f, fd, F, m, b⟩ := D
  cases hfa.symm.trans m
  exact ⟨fd, fun s v => .of_eq (b [v] rfl), fun base _ _ => ok_law F T⟩
theorem walk {l : PySem.W.OpenLaw} {q : Program} {loose : List Str} {XP : (Str → Option Value) → Heap → Prop} {YP : World → Heap → Prop} {d : DefRec} {K : Params → PySem.W.Frag} (hn : l.most = some 63) (hdf : d.params.defaults = [])
    (hY : ∀ (w : World) (h : Heap), YP w h → (K w.params).In h)
    (F : ∀ (w : World) (mg : Str → Option Value) (fa : Addr) (h : Heap), (K w.params).In h → h.Ns PySem.mainGlobals mg → mg d.name = some (.ref fa) →
      ∃ fd : FuncData, (∀ (s : Shared) (u : Value), BindsTo s fd ⟨[u], []⟩ [("script", u)]) ∧ ∀ base : Heap, (K w.params).In base → base.Ns PySem.mainGlobals mg → FnOk l.prog w (K w.params) mg base CX0 6 fa fd ["script"] (sp_law (K w.params))) :
    PySem.W.WalkO q loose XP YP l.row.toRowW d [] (fun f vs => PySem.call f vs) :=
  L2.walk_of (n := 63) (k := 6) (x := "script") (CX := fun _ => CX0) (sp := fun w => sp_law (K w.params)) hn (by decide) hdf ⟨rfl, by decide, by decide⟩ hY F (fun _ _ a ns hl _ hS => ⟨a, ns, rfl, hS, hl, fun _ => rfl⟩) fun _ _ _ _ _ z => z
end Pf
open PySem PySem.W PyProof.Rows
set_option maxRecDepth 100000 in
set_option maxHeartbeats 0 in
theorem PySem.Challenge.cw_crumbjar_k12_whole_paths_in_order_holds : PySem.Challenge.rw_crumbjar_k12_whole_paths_in_order.Holds := by
  w_on; o_law; k_head; (case hw => w_witness2)
  k_fill
  refine Pf.walk (l := PySem.Challenge.rw_crumbjar_k12_whole_paths_in_order) rfl rfl (fun w h Y => PySem.W.kIn_of Y) ?F
  case F =>
    intro w mg fa h KX G hmg
    refine' Pf.fin_mk hmg (Kb.Df.mk KX G Pf.bd_law ?a10 ?l10 ?c10 ?k10) ⟨(PySem.W.mg_none_of KX G ?z0),
      (PySem.W.mg_none_of KX G ?z1),
      (PySem.W.mg_none_of KX G ?z2),
      (PySem.W.mg_none_of KX G ?z3),
      (PySem.W.mg_none_of KX G ?z4),
      (PySem.W.mg_none_of KX G ?z5),
      (PySem.W.mg_none_of KX G ?z6),
      (PySem.W.mg_none_of KX G ?z7),
      ⟨_, PySem.W.mg_of KX G ?x0, ?r0⟩,
      ⟨_, PySem.W.mg_of KX G ?x1, ?r1⟩,
      ⟨_, PySem.W.mg_of KX G ?x2, ?r2⟩,
      (Kb.Df.mk KX G Pf.bd__is_path_sign ?a0 ?l0 ?c0 ?k0),
      (Kb.Df.mk KX G Pf.bd_is_path ?a1 ?l1 ?c1 ?k1),
      (Kb.Df.mk KX G Pf.bd__need_path ?a2 ?l2 ?c2 ?k2),
      (Kb.Df.mk KX G Pf.bd_path_fits ?a3 ?l3 ?c3 ?k3),
      (Kb.Df.mk KX G Pf.bd__law_draw ?a4 ?l4 ?c4 ?k4),
      (Kb.Df.mk KX G Pf.bd_default_path ?a5 ?l5 ?c5 ?k5),
      (Kb.Df.mk KX G Pf.bd__law_mixed ?a6 ?l6 ?c6 ?k6),
      (Kb.Df.mk KX G Pf.bd__law_digit ?a7 ?l7 ?c7 ?k7),
      (Kb.Df.mk KX G Pf.bd__law_paths ?a8 ?l8 ?c8 ?k8),
      (Kb.Df.mk KX G Pf.bd__law_down ?a9 ?l9 ?c9 ?k9)⟩
    (case z0 => k_is)
    (case z1 => k_is)
    (case z2 => k_is)
    (case z3 => k_is)
    (case z4 => k_is)
    (case z5 => k_is)
    (case z6 => k_is)
    (case z7 => k_is)
    (case x0 => k_is)
    (case r0 => first | exact ⟨_, rfl⟩ | rfl)
    (case x1 => k_is)
    (case r1 => first | exact ⟨_, rfl⟩ | rfl)
    (case x2 => k_is)
    (case r2 => first | exact ⟨_, rfl⟩ | rfl)
    (case a0 => k_is)
    (case l0 => k_is)
    (case c0 => k_is)
    (case k0 => k_is)
    (case a1 => k_is)
    (case l1 => k_is)
    (case c1 => k_is)
    (case k1 => k_is)
    (case a2 => k_is)
    (case l2 => k_is)
    (case c2 => k_is)
    (case k2 => k_is)
    (case a3 => k_is)
    (case l3 => k_is)
    (case c3 => k_is)
    (case k3 => k_is)
    (case a4 => k_is)
    (case l4 => k_is)
    (case c4 => k_is)
    (case k4 => k_is)
    (case a5 => k_is)
    (case l5 => k_is)
    (case c5 => k_is)
    (case k5 => k_is)
    (case a6 => k_is)
    (case l6 => k_is)
    (case c6 => k_is)
    (case k6 => k_is)
    (case a7 => k_is)
    (case l7 => k_is)
    (case c7 => k_is)
    (case k7 => k_is)
    (case a8 => k_is)
    (case l8 => k_is)
    (case c8 => k_is)
    (case k8 => k_is)
    (case a9 => k_is)
    (case l9 => k_is)
    (case c9 => k_is)
    (case k9 => k_is)
    (case a10 => k_is)
    (case l10 => k_is)
    (case c10 => k_is)
    (case k10 => k_is)
#print axioms PySem.Challenge.cw_crumbjar_k12_whole_paths_in_order_holds

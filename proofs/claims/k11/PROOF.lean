import PyProof.Rows.All
import Wide.All
import OpenK.AllK
import Wide.FinOn
import HandS.Base
import HandS.Call
import HandS.List
import HandS.Comp
import HandS.Ends
import HandS.Dict
import HandS.Iter
import HandS.Text
import HandS.Words
import PyProof.Rows.StrNews2
import PyProof.StrLawsLast
import HandS.Wide
import HandS.Walk
import HandS.IsInst
import HandS.Style
import HandS.Codes
import HandS.Flow
import HandS.Evl
import PySem.Challenge.RW_crumbjar_k11_paths_that_fit
set_option Elab.async false
set_option linter.all false
set_option maxRecDepth 100000
set_option maxHeartbeats 4000000
namespace Kb
open PySem PySem.Spec PyProof.Rows L2
/-! ### a def of the text, a def that may be called -/
def Df (K : PySem.W.Frag) (mg : Str → Option Value) (x : Str) (st : Stmt) (ps : List Str) : Prop :=
  ∃ (f : Addr) (fd : FuncData), Fun K x x st f fd ∧ mg x = some (.ref f) ∧ ∀ us : List Value, us.length = ps.length → bindArgs fd ⟨us, []⟩ = pure (ps.zip us)
theorem Df.mk {K : PySem.W.Frag} {mg : Str → Option Value} {h : Heap} {x : Str} {st : Stmt} {ps : List Str} {f : Addr} {oc : Value} {od an : Option Addr} {sl : Array (Option Value)} {kV doc pm cd ct : Value} (X : K.In h) (G : h.Ns PySem.mainGlobals mg)
    (b : ∀ (kV doc pm : Value) (an : Option Addr) (cdv ct : Value) (us : List Value), us.length = ps.length → bindArgs (PySem.W.fnOf x x (defArgs st) (defBody st) (defScope st) .none kV doc pm an cdv ct) ⟨us, []⟩ = pure (ps.zip us))
    (a : PySem.W.nsIn K PySem.mainGlobals x = some (some (.ref f)))
    (l : K.lookup f = some ⟨oc, od, .func (PySem.W.fnOf x x (defArgs st) (defBody st) (defScope st) .none kV doc pm an cd ct), sl⟩)
    (c : PySem.W.codeIn K cd x = true) (k : PySem.W.keepIn K (.ref f) = true) : Df K mg x st ps :=
  ⟨f, _, fun_mk l c k, PySem.W.mg_of X G a, b kV doc pm an cd ct⟩
def Cal (P : Program) (w : World) (K : PySem.W.Frag) (mg : Str → Option Value) (base : Heap) (CX : CXT) (k : Nat) (x : Str) (ps : List Str) (sp : Sp) : Prop :=
  ∃ (f : Addr) (fd : FuncData), FnOk P w K mg base CX k f fd ps sp ∧ mg x = some (.ref f) ∧ PySem.W.keepIn K (.ref f) = true ∧ Binds K fd ps []
section
variable {P : Program} {w : World} {K : PySem.W.Frag} {mg : Str → Option Value} {base : Heap}
theorem Df.ok0 {x : Str} {st : Stmt} {N ps : List Str} {k : Nat} {sp : Sp} (D : Df K mg x st ps) (S : FnScope N ps (defScope st)) (len : ∀ vs H Q E, sp vs H Q E → vs.length = ps.length)
    (hbody : ∀ (f : Addr) (cdv : Value) (A : Around) (outer : List Env) (s : Shared) (H : Hp) (vs : List V) (Q : VK) (E : XK), Room k (A.deeper (envOfC x (defScope st) s.heap.objs.size f cdv)) → sp vs H Q E →
      ∃ t, PSs (cxOf CX0 P w K mg base N x (defScope st) f cdv A outer s H E).nox (defBody st) t ∧ t { nx := fun _ H' => Q .non H', rt := Q } (start N vs) H) : Cal P w K mg base CX0 (k + 1) x ps sp := by
  obtain ⟨f, fd, F, m, b⟩ := D
  exact ⟨f, fd, F.ok S len (hbody f), m, F.kp, .all b⟩
end
theorem pe_c {X : Cx} {CX : CXT} {j k : Nat} {x : Str} {ps : List Str} {sp : Sp} {E : XK} {p pos : Pos} {e : Expr} {es : List Expr} {t : TA} (c : Cal X.prog X.w X.K X.mg X.base CX j x ps sp) (hr : Room k X.A) (hjk : j ≤ k) (hg : Gl X x) (hx : Passes CX X E)
    (ha : PA X (e :: es) t) (hdb : (x == ("__debug__" : Str)) = false := by decide) (he : starEach (e :: es) X.env = (false, eval e X.env) :: starEach es X.env := by rfl) (hpl : (backTo pos (starEach es X.env)).any (·.1) = false := by rfl) :
    PE X (.Call (.Name x p) (e :: es) [] pos) (tCall sp [] E t) := by
  obtain ⟨f, fd, F, m, kp, b⟩ := c
  exact pe_call F (hr.mono hjk) hg m kp b .nil hx ha hdb he hpl
end Kb

namespace Kb
open PySem PySem.Spec PyProof.Rows L2 TL PySem.StrLaws Builtin.Str
/-! ### lists of signs: parts between one sign -/
def sp1 (c : Nat) : List Nat → List (List Nat)
  | [] => [[]]
  | x :: l => if x = c then [] :: sp1 c l else match sp1 c l with
    | [] => [[x]]
    | h :: t => (x :: h) :: t
theorem sp1_ne (c : Nat) : ∀ l, sp1 c l ≠ []
  | [] => by simp [sp1]
  | x :: l => by
    unfold sp1
    split
    · simp
    · cases h : sp1 c l <;> simp
theorem sp1_hit (c : Nat) (l : List Nat) : sp1 c (c :: l) = [] :: sp1 c l := by simp [sp1]
theorem sp1_miss {c x : Nat} (h : x ≠ c) {l p : List Nat} {r : List (List Nat)} (e : sp1 c l = p :: r) : sp1 c (x :: l) = (x :: p) :: r := by
  simp only [sp1, if_neg h, e]
theorem sp1_cons (c : Nat) (l : List Nat) : ∃ p r, sp1 c l = p :: r := by
  cases h : sp1 c l with
  | nil => exact absurd h (sp1_ne c l)
  | cons p r => exact ⟨p, r, rfl⟩
theorem spl_sp1 (c : Nat) : ∀ (l acc : List Nat) (p : List Nat) (r : List (List Nat)), sp1 c l = p :: r → spl [c] 0 acc l = (acc ++ p) :: r
  | [], acc, p, r, h => by
    simp only [sp1, List.cons.injEq] at h
    obtain ⟨rfl, rfl⟩ := h
    simp [spl_nil]
  | x :: l, acc, p, r, h => by
    obtain ⟨q, s, e⟩ := sp1_cons c l
    by_cases hx : x = c
    · subst hx
      rw [sp1_hit] at h
      simp only [List.cons.injEq] at h
      obtain ⟨rfl, rfl⟩ := h
      rw [spl_hit (by simp [pre])]
      rw [show [x].length - 1 = 0 from rfl, spl_sp1 x l [] q s e, e]
      simp
    · rw [sp1_miss hx e] at h
      simp only [List.cons.injEq] at h
      obtain ⟨rfl, rfl⟩ := h
      rw [spl_miss (by simp [pre, hx]), spl_sp1 c l _ q s e]
      simp
theorem split_sp1 (x : Str) {c : Nat} (hc : c < 256) : (Txt.split x ⟨#[c]⟩).map tl = sp1 c (tl x) := by
  rw [split_spl x ⟨#[c]⟩ (by simp [tl]) (kind_ok (by simp [hc]))]
  obtain ⟨p, r, e⟩ := sp1_cons c (tl x)
  show spl [c] 0 [] (tl x) = _
  rw [spl_sp1 c _ [] p r e, e]
  rfl
theorem joinL_sp1 (c : Nat) : ∀ l, joinL [c] (sp1 c l) = l
  | [] => rfl
  | x :: l => by
    obtain ⟨q, s, e⟩ := sp1_cons c l
    have ih := joinL_sp1 c l
    by_cases hx : x = c
    · subst hx
      rw [sp1_hit, e]
      rw [e] at ih
      show [] ++ ([x] ++ joinL [x] (q :: s)) = _
      rw [ih]; rfl
    · rw [sp1_miss hx e]
      rw [e] at ih
      cases s with
      | nil => exact congrArg (x :: ·) ih
      | cons a b => exact congrArg (x :: ·) ih
theorem sp1_free (c : Nat) : ∀ l, ∀ p ∈ sp1 c l, c ∉ p
  | [], p, h => by simp only [sp1, List.mem_singleton] at h; subst h; simp
  | x :: l, p, h => by
    obtain ⟨q, s, e⟩ := sp1_cons c l
    have ih := sp1_free c l
    by_cases hx : x = c
    · subst hx
      rw [sp1_hit] at h
      rcases List.mem_cons.mp h with rfl | h
      · simp
      · exact ih p h
    · rw [sp1_miss hx e] at h
      rw [e] at ih
      rcases List.mem_cons.mp h with rfl | h
      · intro hm
        rcases List.mem_cons.mp hm with r | r
        · exact hx r.symm
        · exact ih q (List.mem_cons_self ..) r
      · exact ih p (List.mem_cons_of_mem _ h)
theorem sp1_of_free {c : Nat} : ∀ {l : List Nat}, c ∉ l → sp1 c l = [l]
  | [], _ => rfl
  | x :: l, h => by
    have hx : x ≠ c := fun e => h (e ▸ List.mem_cons_self ..)
    rw [sp1_miss hx (sp1_of_free fun m => h (List.mem_cons_of_mem _ m))]
theorem sp1_app (c : Nat) : ∀ (a b : List Nat), sp1 c (a ++ c :: b) = sp1 c a ++ sp1 c b
  | [], b => by rw [List.nil_append, sp1_hit]; rfl
  | x :: a, b => by
    obtain ⟨q, s, e⟩ := sp1_cons c a
    have ih := sp1_app c a b
    rw [e] at ih
    by_cases hx : x = c
    · subst hx
      rw [List.cons_append, sp1_hit, sp1_hit, ih, e]; rfl
    · rw [List.cons_append, sp1_miss hx ih, sp1_miss hx e]; rfl
/-- r and the sign stand at the head exactly if r's parts are the first ones, with one more behind -/
theorem sp1_prefix (c : Nat) : ∀ (r p : List Nat), ((sp1 c r).length < (sp1 c p).length ∧ (sp1 c p).take (sp1 c r).length = sp1 c r) ↔ (r ++ [c]) <+: p
  | [], p => by
    show (1 < _ ∧ List.take 1 _ = [[]]) ↔ [c] <+: p
    cases p with
    | nil => simp [sp1]
    | cons x p =>
      obtain ⟨q, s, e⟩ := sp1_cons c p
      by_cases hx : x = c
      · subst hx
        simp [sp1_hit, e]
      · rw [sp1_miss hx e]
        simp [List.cons_prefix_cons, Ne.symm hx]
  | y :: r, p => by
    obtain ⟨q, s, e⟩ := sp1_cons c r
    cases p with
    | nil =>
      have h1 : 0 < (sp1 c (y :: r)).length := List.length_pos_iff.mpr (sp1_ne c _)
      constructor
      · rintro ⟨h, _⟩
        simp only [sp1, List.length_cons, List.length_nil] at h
        exact absurd h (by have : (sp1 c (y :: r)).length = (sp1 c (y :: r)).length := rfl; simp only [sp1] at h1; omega)
      · intro h; simp at h
    | cons x p =>
      obtain ⟨q', s', e'⟩ := sp1_cons c p
      have ih := sp1_prefix c r p
      rw [List.cons_append, List.cons_prefix_cons]
      by_cases hy : y = c
      · subst hy
        rw [sp1_hit]
        by_cases hx : x = y
        · subst hx
          rw [sp1_hit]
          simp only [List.length_cons, List.take_succ_cons, List.cons.injEq, true_and, Nat.add_lt_add_iff_right]
          exact ih
        · rw [sp1_miss hx e']
          simp [Ne.symm hx]
      · rw [sp1_miss hy e]
        by_cases hx : x = c
        · subst hx
          rw [sp1_hit]
          simp [Ne.symm hy, hy]
        · rw [sp1_miss hx e']
          rw [e, e'] at ih
          simp only [List.length_cons, List.take_succ_cons, List.cons.injEq] at ih ⊢
          constructor
          · rintro ⟨h1, ⟨h2, h3⟩, h4⟩
            exact ⟨h2.symm, ih.mp ⟨h1, h3, h4⟩⟩
          · rintro ⟨h2, h⟩
            obtain ⟨h1, h3, h4⟩ := ih.mpr h
            exact ⟨h1, ⟨h2.symm, h3⟩, h4⟩
/-- the last part -/
theorem last_cut {c : Nat} : ∀ {l : List Nat}, c ∈ l → ∃ a b, l = a ++ c :: b ∧ c ∉ b
  | [], h => by cases h
  | x :: l, h => by
    by_cases hm : c ∈ l
    · obtain ⟨a, b, e, hb⟩ := last_cut hm
      exact ⟨x :: a, b, by rw [e]; rfl, hb⟩
    · have hx : c = x := by
        rcases List.mem_cons.mp h with e | e
        · exact e
        · exact absurd e hm
      exact ⟨[], l, by rw [hx]; rfl, hm⟩
/-! ### the model's words as list functions -/
theorem startswith_tl (x y : Str) : Txt.startswith x y = (tl y).isPrefixOf (tl x) := by
  unfold Txt.startswith
  rw [subAt_eq, List.drop_zero, len_tl, len_tl, Nat.zero_add]
  rw [Bool.eq_iff_iff]
  simp only [Bool.and_eq_true, decide_eq_true_eq, beq_iff_eq, List.isPrefixOf_iff_prefix]
  constructor
  · rintro ⟨_, h⟩
    have h : List.take (tl y).length (tl x) = tl y := h
    exact h ▸ List.take_prefix _ _
  · intro h
    exact ⟨h.length_le, (List.prefix_iff_eq_take.mp h).symm⟩
theorem endswith_tl (x y : Str) : Txt.endswith x y = (tl y).isSuffixOf (tl x) := by
  unfold Txt.endswith
  rw [subAt_eq, len_tl, len_tl, Nat.zero_add]
  rw [Bool.eq_iff_iff]
  simp only [Bool.and_eq_true, decide_eq_true_eq, beq_iff_eq, List.isSuffixOf_iff_suffix]
  constructor
  · rintro ⟨h1, h⟩
    have h : List.take (tl y).length (List.drop ((tl x).length - (tl y).length) (tl x)) = tl y := h
    rw [List.take_of_length_le (by rw [List.length_drop]; omega)] at h
    exact h ▸ List.drop_suffix _ _
  · intro h
    have hl := h.length_le
    refine ⟨hl, ?_⟩
    show List.take (tl y).length (List.drop ((tl x).length - (tl y).length) (tl x)) = tl y
    rw [List.take_of_length_le (by rw [List.length_drop]; omega)]
    exact (List.suffix_iff_eq_drop.mp h).symm
theorem rpartition_hit {x : Str} {c : Nat} {a b : List Nat} (e : tl x = a ++ c :: b) (hb : c ∉ b) : tl (Txt.rpartition x ⟨#[c]⟩).1 = a := by
  have hy : tl (⟨#[c]⟩ : Str) ≠ [] := by simp [tl]
  have at' : ∀ i, At x ⟨#[c]⟩ x.length i ↔ (tl x)[i]? = some c := fun i => by
    rw [at_iff hy]
    show (((tl x).drop i).take 1 == [c]) = true ↔ _
    exact take1_drop
  have hit : At x ⟨#[c]⟩ x.length a.length := (at' _).mpr (by rw [e]; simp)
  unfold Txt.rpartition
  rcases last_spec x ⟨#[c]⟩ with ⟨e1, h⟩ | ⟨i, e1, h1, h2⟩
  · exact absurd hit (h _)
  · rw [e1]
    show tl (strSub x 0 i) = a
    have hi : i = a.length := by
      rcases Nat.lt_trichotomy i a.length with q | q | q
      · exact absurd hit (h2 _ q)
      · exact q
      · have g := (at' i).mp h1
        rw [e, List.getElem?_append_right (by omega)] at g
        obtain ⟨k, hk⟩ : ∃ k, i - a.length = k + 1 := ⟨i - a.length - 1, by omega⟩
        rw [hk, List.getElem?_cons_succ] at g
        exact absurd (List.mem_of_getElem? g) hb
    rw [tl_strSub, hi, e]
    simp
theorem tl_S (l : List Nat) : tl ⟨l.toArray⟩ = l := rfl
theorem str_eq_iff {x y : Str} : x = y ↔ tl x = tl y := ⟨fun e => by rw [e], ext_tl⟩
end Kb
namespace Kb
open PySem PySem.Spec PyProof.Rows L2 TL PySem.StrLaws Builtin.Str
theorem cutS_to (z : Str) {i : Int} (h : 0 ≤ i) : tl (cutS z none (some i)) = (tl z).take i.toNat := by
  obtain ⟨k, rfl⟩ : ∃ k : Nat, i = (k : Int) := ⟨i.toNat, by omega⟩
  show ((tl z).drop (HT.sIx z.length 0 none)).take (HT.sIx z.length z.length (some (k : Int)) - HT.sIx z.length 0 none) = _
  rw [HT.sIx_none, HT.sIx_nat, List.drop_zero, Nat.sub_zero, Int.toNat_natCast, len_tl, ← List.take_take, List.take_of_length_le (Nat.le_refl _)]
end Kb
namespace Kb
open PySem PySem.Spec PyProof.Rows L2 TL PySem.StrLaws Builtin.Str
theorem cutV_to (xs : List V) {i : Int} (h : 0 ≤ i) : cutV xs none (some i) = xs.take i.toNat := by
  obtain ⟨k, rfl⟩ : ∃ k : Nat, i = (k : Int) := ⟨i.toNat, by omega⟩
  show (xs.drop (HT.sIx xs.length 0 none)).take (HT.sIx xs.length xs.length (some (k : Int)) - HT.sIx xs.length 0 none) = _
  rw [HT.sIx_none, HT.sIx_nat, List.drop_zero, Nat.sub_zero, Int.toNat_natCast, ← List.take_take, List.take_of_length_le (Nat.le_refl _)]
theorem cutV_m1 (xs : List V) : cutV xs none (some (-1)) = xs.dropLast := by
  show (xs.drop (HT.sIx xs.length 0 none)).take (HT.sIx xs.length xs.length (some (-1)) - HT.sIx xs.length 0 none) = _
  rw [HT.sIx_none, List.drop_zero, Nat.sub_zero, List.dropLast_eq_take]
  have e : HT.sIx xs.length xs.length (some (-1)) = xs.length - 1 := by
    show (if (-1 : Int) < 0 then ((-1 : Int) + (xs.length : Int)).toNat else min (-1 : Int).toNat xs.length) = _
    rw [if_pos (by decide)]
    omega
  rw [e]
theorem sp1_mem {c s : Nat} : ∀ {l p : List Nat}, p ∈ sp1 c l → s ∈ p → s ∈ l
  | [], p, h, hs => by simp only [sp1, List.mem_singleton] at h; subst h; exact hs
  | x :: l, p, h, hs => by
    obtain ⟨q, r, e⟩ := sp1_cons c l
    have ih := fun p => sp1_mem (c := c) (s := s) (l := l) (p := p)
    by_cases hx : x = c
    · subst hx
      rw [sp1_hit] at h
      rcases List.mem_cons.mp h with rfl | h
      · cases hs
      · exact List.mem_cons_of_mem _ (ih p h hs)
    · rw [sp1_miss hx e] at h
      rw [e] at ih
      rcases List.mem_cons.mp h with rfl | h
      · rcases List.mem_cons.mp hs with rfl | hs
        · exact List.mem_cons_self ..
        · exact List.mem_cons_of_mem _ (ih q (List.mem_cons_self ..) hs)
      · exact List.mem_cons_of_mem _ (ih p (List.mem_cons_of_mem _ h) hs)
theorem split_mem {x p : Str} {c : Nat} (hc : c < 256) (h : p ∈ Txt.split x ⟨#[c]⟩) : ∀ s ∈ tl p, s ∈ tl x := fun s hs =>
  sp1_mem (c := c) (by rw [← split_sp1 x hc]; exact List.mem_map.mpr ⟨p, h, rfl⟩) hs
theorem split_strOk {x : Str} {c : Nat} (hc : c < 256) (hx : ∀ s ∈ tl x, s < 1114112) : ∀ p ∈ Txt.split x ⟨#[c]⟩, PyData.canLay0 (.str p) = true := fun p hp => by
  rw [PyData.canLay0]
  show p.cps.all _ = true
  rw [Array.all_eq_true_iff_forall_mem]
  intro s hs
  exact decide_eq_true (hx s (split_mem hc hp s (Array.mem_toList_iff.mpr hs)))
theorem prefix_snoc {q p : List Nat} {c : Nat} : (q ++ [c]) <+: p ↔ q <+: p ∧ p[q.length]? = some c := by
  constructor
  · rintro ⟨r, e⟩
    refine ⟨⟨c :: r, by rw [← e]; simp⟩, ?_⟩
    rw [← e]; simp
  · rintro ⟨⟨r, e⟩, h⟩
    rw [← e, List.getElem?_append_right (Nat.le_refl _), Nat.sub_self] at h
    cases r with
    | nil => cases h
    | cons a r =>
      cases h
      exact ⟨r, by rw [← e]; simp⟩
theorem snoc_of_ne {l : List Nat} (h : l ≠ []) : ∃ r c, l = r ++ [c] := ⟨l.dropLast, l.getLast h, (List.dropLast_concat_getLast h).symm⟩
theorem sp1_length {c : Nat} : ∀ l : List Nat, (sp1 c l).length ≤ l.length + 1
  | [] => by simp [sp1]
  | x :: l => by
    obtain ⟨q, r, e⟩ := sp1_cons c l
    have ih := sp1_length (c := c) l
    by_cases hx : x = c
    · subst hx; rw [sp1_hit]; simp; omega
    · rw [sp1_miss hx e]; rw [e] at ih; simp at ih ⊢; omega
theorem split_length (x : Str) {c : Nat} (hc : c < 256) : (Txt.split x ⟨#[c]⟩).length ≤ x.length + 1 := by
  have := sp1_length (c := c) (tl x)
  rw [← split_sp1 x hc, List.length_map] at this
  rw [len_tl]; exact this
end Kb
namespace Kb
open PySem PySem.Spec PyProof.Rows L2 TL PySem.StrLaws Builtin.Str
theorem sp1_mem_len {c : Nat} : ∀ {l p : List Nat}, p ∈ sp1 c l → p.length ≤ l.length
  | [], p, h => by simp only [sp1, List.mem_singleton] at h; subst h; simp
  | x :: l, p, h => by
    obtain ⟨q, r, e⟩ := sp1_cons c l
    have ih := fun p => sp1_mem_len (c := c) (l := l) (p := p)
    by_cases hx : x = c
    · subst hx
      rw [sp1_hit] at h
      rcases List.mem_cons.mp h with rfl | h
      · simp
      · have := ih p h; simp; omega
    · rw [sp1_miss hx e] at h
      rw [e] at ih
      rcases List.mem_cons.mp h with rfl | h
      · have := ih q (List.mem_cons_self ..); simp; omega
      · have := ih p (List.mem_cons_of_mem _ h); simp; omega
theorem split_mem_len {x p : Str} {c : Nat} (hc : c < 256) (h : p ∈ Txt.split x ⟨#[c]⟩) : p.length ≤ x.length := by
  rw [len_tl, len_tl]
  exact sp1_mem_len (c := c) (by rw [← split_sp1 x hc]; exact List.mem_map.mpr ⟨p, h, rfl⟩)
theorem joinL_nil {c : Nat} : ∀ {L : List (List Nat)}, joinL [c] L = [] → L = [] ∨ L = [[]]
  | [], _ => .inl rfl
  | [p], h => .inr (by rw [show p = [] from h])
  | p :: q :: r, h => by
    have : p ++ ([c] ++ joinL [c] (q :: r)) = [] := h
    simp at this
theorem join_tl (y : Str) (parts : List Str) : tl (Txt.join y parts) = joinL (tl y) (parts.map tl) := by rw [join_eq, tl_join]
end Kb
namespace Kb
open PySem PySem.Spec PyProof.Rows L2 TL PySem.StrLaws Builtin.Str
theorem cutV_from (xs : List V) {i : Int} (h : 0 ≤ i) : cutV xs (some i) none = xs.drop i.toNat := by
  obtain ⟨k, rfl⟩ : ∃ k : Nat, i = (k : Int) := ⟨i.toNat, by omega⟩
  show (xs.drop (HT.sIx xs.length 0 (some (k : Int)))).take (HT.sIx xs.length xs.length none - HT.sIx xs.length 0 (some (k : Int))) = _
  rw [HT.sIx_none, HT.sIx_nat, Int.toNat_natCast]
  rcases Nat.le_total k xs.length with q | q
  · rw [Nat.min_eq_left q, List.take_of_length_le (by rw [List.length_drop]; omega)]
  · rw [Nat.min_eq_right q, List.drop_length, List.drop_eq_nil_of_le q, List.take_nil]
end Kb

namespace Kb
open PySem PySem.Spec PyProof.Rows L2
section
variable {X : Cx}
theorem pe_gc {x : Str} {pos : Pos} {v : V} (hg : Gl X x) (h : ∃ u, X.mg x = some u ∧ RelV v u) (hd : (x == ("__debug__" : Str)) = false := by decide) : PE X (.Name x pos) (tC v) := by
  obtain ⟨u, hm, r⟩ := h
  exact pe_glob hg hm r hd
theorem mt_rpartition : MtR X "str.rpartition" (fun x xs H Q => ∃ a b, x = .str a ∧ xs = [.str b] ∧ (b.length == 0) = false ∧ a.length ≤ sizeLine ∧
    ∀ p, H p = none → Q (.ref p) (upd H p (.tup [.str (Txt.rpartition a b).1, .str (Txt.rpartition a b).2.1, .str (Txt.rpartition a b).2.2]))) := by
  intro pins s σ H x xs v us Q I rx rs h
  obtain ⟨a, b, rfl, rfl, hb, hz, h⟩ := h
  obtain ⟨t, rfl⟩ := rx
  cases rs with
  | cons r1 rs =>
    cases rs
    obtain ⟨u, rfl⟩ := r1
    refine call_meets F.slot_str_rpartition (typeIs_str _ _ _) F.entry_str_rpartition (F.args_str_rpartition_2 _ _) (meets_str_rpartition a b t u hb hz) ?_
    unfold Txt.rpartition at h
    revert h
    cases Builtin.Str.lastOccurrence a b 0 a.length with
    | none => intro h; exact laid_parts I h
    | some i => intro h; exact laid_parts I h
end
/-! ### frames -/
/-- all that was tracked is as it was, but for d -/
def Keep (d : Addr) (H H' : Hp) : Prop := ∀ b o, H b = some o → b ≠ d → H' b = some o
theorem Keep.refl {d : Addr} {H : Hp} : Keep d H H := fun _ _ h _ => h
theorem Keep.trans {d : Addr} {H H1 H2 : Hp} (a : Keep d H H1) (b : Keep d H1 H2) : Keep d H H2 := fun c o h n => b c o (a c o h n) n
theorem Same.keep {d : Addr} {H H' : Hp} (a : Same H H') : Keep d H H' := fun c o h _ => a c o h
theorem Same.new {H : Hp} {p : Addr} {o : HO} (h : H p = none) : Same H (upd H p o) := fun b u e => by
  rw [upd_ne (ne_of_none e h)]
  exact e
theorem Keep.upd {d : Addr} {H H' : Hp} {o : HO} (a : Keep d H H') : Keep d H (upd H' d o) := fun c u h n => by
  rw [upd_ne n]
  exact a c u h n
theorem Keep.same {d : Addr} {H H1 H2 : Hp} (a : Keep d H H1) (b : Same H1 H2) : Keep d H H2 := fun c o h n => b c o (a c o h n)
theorem Same.then {d : Addr} {H H1 H2 : Hp} (a : Same H H1) (b : Keep d H1 H2) : Keep d H H2 := fun c o h n => b c o (a c o h) n
theorem Keep.seqL {K : PySem.W.Frag} {d a : Addr} {H H' : Hp} {xs : List V} (k : Keep d H H') (n : a ≠ d) (h : SqL K H a xs) : SqL K H' a xs := by
  rcases h with (h | ⟨o, h⟩) | h
  · exact .inl (.inl (k _ _ h n))
  · exact .inl (.inr ⟨o, k _ _ h n⟩)
  · exact .inr h
/-- an object that is new behind d's own changes -/
theorem Keep.fresh {d : Addr} {H H' : Hp} {l : Addr} (k : Keep d H H') (hd : H d = none) (h : H' l = none) : H l = none := by
  cases q : H l with
  | none => rfl
  | some o =>
    have : l ≠ d := fun e => by rw [e, hd] at q; cases q
    rw [k l o q this] at h
    cases h
/-- what is new since H stays new in Same's way -/
theorem Keep.toSame {d : Addr} {H H' : Hp} (k : Keep d H H') (hd : H d = none) : Same H H' := fun b o h => k b o h (ne_of_none h hd)
/-! ### a menu at an index in bounds -/
theorem menu {xs : List V} {i : Int} (h0 : 0 ≤ i) (h1 : i < (xs.length : Int)) : ∃ v, v ∈ xs ∧ atI xs i = some v := by
  obtain ⟨n, rfl⟩ : ∃ n : Nat, i = (n : Int) := ⟨i.toNat, by omega⟩
  have hn : n < xs.length := by omega
  exact ⟨xs[n], List.getElem_mem hn, atI_nat (List.getElem?_eq_getElem hn)⟩
theorem iteB {b : Bool} {A B : Prop} (h1 : b = true → A) (h2 : b = false → B) : if b = true then A else B := by
  cases b
  · rw [if_neg Bool.false_ne_true]; exact h2 rfl
  · rw [if_pos rfl]; exact h1 rfl
/-! ### the draw -/
def kLeft : Key := Sum.inr "left"
def kCell : Key := Sum.inr "cell"
def kTurns : Key := Sum.inr "turns"
def dkv (l c t : Int) : List (Key × V) := [(Sum.inr "left", .int l), (Sum.inr "cell", .int c), (Sum.inr "turns", .int t)]
theorem kne1 : ¬ (("left" : Str) = "cell") := by decide +kernel
theorem kne2 : ¬ (("left" : Str) = "turns") := by decide +kernel
theorem kne3 : ¬ (("cell" : Str) = "turns") := by decide +kernel
theorem dkv_left (l c t : Int) : valV (dkv l c t) (Sum.inr "left" : Key) = some (.int l) := by
  simp [valV, dkv]
theorem dkv_cell (l c t : Int) : valV (dkv l c t) (Sum.inr "cell" : Key) = some (.int c) := by
  simp [valV, dkv, kne1]
theorem dkv_turns (l c t : Int) : valV (dkv l c t) (Sum.inr "turns" : Key) = some (.int t) := by
  simp [valV, dkv, kne2, kne3]
theorem dkv_putL (l c t x : Int) : putK (dkv l c t) (Sum.inr "left" : Key) (.int x) = dkv x c t := by
  simp [putK, dkv, Ne.symm kne1, Ne.symm kne2]
theorem dkv_putT (l c t x : Int) : putK (dkv l c t) (Sum.inr "turns" : Key) (.int x) = dkv l c x := by
  simp [putK, dkv, kne2, kne3]
def DrawAt (H : Hp) (d : Addr) (n : Nat) : Prop := ∃ l c t : Int, H d = some (.dK (dkv l c t)) ∧ 0 ≤ l ∧ 0 ≤ t ∧ t + 4 * (n : Int) ≤ 1000000000
theorem DrawAt.less {H : Hp} {d : Addr} {n m : Nat} (h : DrawAt H d n) (e : m ≤ n) : DrawAt H d m := by
  obtain ⟨l, c, t, h1, h2, h3, h4⟩ := h
  exact ⟨l, c, t, h1, h2, h3, by omega⟩
theorem DrawAt.same {H H' : Hp} {d : Addr} {n : Nat} (h : DrawAt H d n) (s : Same H H') : DrawAt H' d n := by
  obtain ⟨l, c, t, h1, h2⟩ := h
  exact ⟨l, c, t, s _ _ h1, h2⟩
theorem DrawAt.keep {H H' : Hp} {d e : Addr} {n : Nat} (h : DrawAt H d n) (s : Keep e H H') (x : d ≠ e) : DrawAt H' d n := by
  obtain ⟨l, c, t, h1, h2⟩ := h
  exact ⟨l, c, t, s _ _ h1 x, h2⟩
end Kb
namespace Kb
open PySem PySem.Spec PyProof.Rows L2
theorem dget_left {H : Hp} {d : Addr} {l c t : Int} (h : H d = some (.dK (dkv l c t))) : DGet H d (.str "left") (some (.int l)) := by
  have e := DGet.k (k := (Sum.inr "left" : Key)) h
  rw [dkv_left] at e
  exact e
theorem dget_cell {H : Hp} {d : Addr} {l c t : Int} (h : H d = some (.dK (dkv l c t))) : DGet H d (.str "cell") (some (.int c)) := by
  have e := DGet.k (k := (Sum.inr "cell" : Key)) h
  rw [dkv_cell] at e
  exact e
theorem dget_turns {H : Hp} {d : Addr} {l c t : Int} (h : H d = some (.dK (dkv l c t))) : DGet H d (.str "turns") (some (.int t)) := by
  have e := DGet.k (k := (Sum.inr "turns" : Key)) h
  rw [dkv_turns] at e
  exact e
theorem dput_left {H : Hp} {d : Addr} {l c t : Int} (x : Int) (h : H d = some (.dK (dkv l c t))) : DPut H d (.str "left") (.int x) (upd H d (.dK (dkv x c t))) := by
  have e := DPut.k (k := (Sum.inr "left" : Key)) (v := .int x) h (Nat.lt_of_lt_of_le (by show 3 < 10; decide) (by decide))
  rw [dkv_putL] at e
  exact e
theorem dput_turns {H : Hp} {d : Addr} {l c t : Int} (x : Int) (h : H d = some (.dK (dkv l c t))) : DPut H d (.str "turns") (.int x) (upd H d (.dK (dkv l c x))) := by
  have e := DPut.k (k := (Sum.inr "turns" : Key)) (v := .int x) h (Nat.lt_of_lt_of_le (by show 3 < 10; decide) (by decide))
  rw [dkv_putT] at e
  exact e
end Kb
namespace Kb
open PySem PySem.Spec PyProof.Rows L2 TL
section
variable {K : PySem.W.Frag} {a : Addr} {xs : List V} {g : TG} {tb : TS} {D : Ends} {σ : L2.St} {H : Hp}
theorem for_str {z : Str} (Pv : Nat → L2.St → Hp → Prop) (h0 : Pv 0 σ H)
    (hs : ∀ i c σ H, (tl z)[i]? = some c → Pv i σ H → g (.str ⟨#[c]⟩) σ H fun σ2 H2 => tb { D with nx := Pv (i + 1), ct := Pv (i + 1), bk := D.nx } σ2 H2) (hd : ∀ σ H, Pv (tl z).length σ H → D.nx σ H) :
    ∃ W : Nat → Nat → L2.St → Hp → Prop, (∃ m, W 0 m σ H) ∧ ∀ i m σ H, W i m σ H →
      ((Its z).stop i H ∧ D.nx σ H) ∨ ((Its z).go i H ∧ ∃ N : L2.St → Hp → Prop, (∀ σ' H', N σ' H' → ∃ m', m' < m ∧ W (i + 1) m' σ' H') ∧ ∀ x H', (Its z).yld i H x H' → g x σ H' fun σ2 H2 => tb { D with nx := N, ct := N, bk := D.nx } σ2 H2) := by
  refine for_it walk_str Pv h0 (fun _ _ _ _ _ => trivial) (fun i x σ H H' hi p y => ?_) (fun σ H p => hd σ H (by rw [show (tl z).length = z.cps.size by simp [tl]]; exact p))
  obtain ⟨rfl, c, hc, rfl⟩ := y
  exact hs i c σ _ (by rw [← hc]; simp [tl]) p
theorem for_enum (Pv : Nat → L2.St → Hp → Prop) (h0 : Pv 0 σ H) (hG : ∀ i σ H, i ≤ xs.length → Pv i σ H → SqL K H a xs)
    (hs : ∀ i x T σ H, xs[i]? = some x → Pv i σ H → H T = none → g (.ref T) σ (upd H T (.tup [.int (i : Nat), x])) fun σ2 H2 => tb { D with nx := Pv (i + 1), ct := Pv (i + 1), bk := D.nx } σ2 H2) (hd : ∀ σ H, Pv xs.length σ H → D.nx σ H) :
    ∃ W : Nat → Nat → L2.St → Hp → Prop, (∃ m, W 0 m σ H) ∧ ∀ i m σ H, W i m σ H →
      ((Ite K a).stop i H ∧ D.nx σ H) ∨ ((Ite K a).go i H ∧ ∃ N : L2.St → Hp → Prop, (∀ σ' H', N σ' H' → ∃ m', m' < m ∧ W (i + 1) m' σ' H') ∧ ∀ x H', (Ite K a).yld i H x H' → g x σ H' fun σ2 H2 => tb { D with nx := N, ct := N, bk := D.nx } σ2 H2) := by
  refine for_it walk_enum Pv h0 hG (fun i x σ H H' hi p y => ?_) hd
  obtain ⟨T, x, y, rfl, hT, rfl, h1, h2⟩ := y
  cases h1
  exact hs i y T σ H h2 p hT
end
end Kb
namespace Kb
open PySem PySem.Spec PyProof.Rows L2 TL
/-! ### == of lists of texts -/
theorem dpAll_strs {K : PySem.W.Frag} {H : Hp} : ∀ ys : List Str, DpAll K H (ys.map V.str) (ys.map PyData.str)
  | [] => .nil
  | y :: ys => .cons (.str y) (dpAll_strs ys)
theorem dp_strs {K : PySem.W.Frag} {H : Hp} {p : Addr} {ys : List Str} (h : SqL K H p (ys.map V.str)) : Dp K H (.ref p) (.list (ys.map PyData.str)) := .lst h (dpAll_strs ys)
theorem dp_strsT {K : PySem.W.Frag} {H : Hp} {p : Addr} {ys : List Str} (h : SqT K H p (ys.map V.str)) : Dp K H (.ref p) (.tuple (ys.map PyData.str)) := .tup h (dpAll_strs ys)
theorem eqvAll_strs : ∀ ys zs : List Str, PyData.eqvAll (ys.map PyData.str) (zs.map PyData.str) = decide (ys = zs)
  | [], [] => by simp [PyData.eqvAll]
  | [], z :: zs => by simp [PyData.eqvAll]
  | y :: ys, [] => by simp [PyData.eqvAll]
  | y :: ys, z :: zs => by
    rw [List.map_cons, List.map_cons, PyData.eqvAll, eqvAll_strs ys zs]
    rw [show PyData.eqv (.str y) (.str z) = (y == z) by simp [PyData.eqv]]
    rw [Bool.eq_iff_iff]
    simp
theorem canLay_strs : ∀ ys : List Str, (∀ y ∈ ys, PyData.canLay0 (.str y) = true) → PyData.canLayAll0 (ys.map PyData.str) = true
  | [], _ => by simp [PyData.canLayAll0]
  | y :: ys, h => by
    rw [List.map_cons, PyData.canLayAll0, h y (List.mem_cons_self ..), canLay_strs ys fun z hz => h z (List.mem_cons_of_mem _ hz)]; rfl
theorem depth_strs : ∀ ys : List Str, PyData.depthAll (ys.map PyData.str) = 0
  | [] => by simp [PyData.depthAll]
  | y :: ys => by
    rw [List.map_cons, PyData.depthAll, depth_strs ys]
    simp [PyData.depth]
theorem shaped_strs {ys : List Str} (h : ∀ y ∈ ys, PyData.canLay0 (.str y) = true) : SeqAt.shaped (.list (ys.map PyData.str)) = true := by
  unfold SeqAt.shaped
  rw [PyData.canLay0, canLay_strs ys h, PyData.depth, depth_strs]; rfl
end Kb
namespace Kb
open PySem PySem.Spec PyProof.Rows L2 TL
/-! ### rules with the written part named -/
def rLenQ (K : PySem.W.Frag) : List V → Hp → VK → Prop := fun xs H Q => ∃ p ys, xs = [.ref p] ∧ (SqL K H p ys ∨ SqT K H p ys) ∧ Q (.int ys.length) H
def rJoinQ (K : PySem.W.Frag) : V → List V → Hp → VK → Prop := fun x xs H Q => ∃ a p, ∃ ys : List Str, x = .str a ∧ xs = [.ref p] ∧ (SqL K H p (ys.map V.str) ∨ SqT K H p (ys.map V.str)) ∧ (ys.map (·.length)).sum + ys.length * a.length ≤ 16777216 ∧ Q (.str (Txt.join a ys)) H
end Kb
namespace Kb
open PySem PySem.Spec PyProof.Rows L2 TL
theorem DrawAt.upd {H : Hp} {d L : Addr} {n : Nat} {o : HO} (h : DrawAt H d n) (x : d ≠ L) : DrawAt (L2.upd H L o) d n := by
  obtain ⟨l, c, t, h1, h2⟩ := h
  exact ⟨l, c, t, by rw [upd_ne x]; exact h1, h2⟩
theorem DrawAt.ne {H : Hp} {d L : Addr} {n : Nat} (h : DrawAt H d n) (x : H L = none) : L ≠ d := fun e => by
  obtain ⟨_, _, _, q, _⟩ := h
  rw [e, q] at x; cases x
theorem Keep.updN {d L : Addr} {H H' : Hp} {o : HO} (k : Keep d H H') (h : H L = none) : Keep d H (L2.upd H' L o) := fun b q e n => by
  rw [upd_ne (ne_of_none e h)]
  exact k b q e n
end Kb
namespace Kb
open PySem PySem.Spec PyProof.Rows L2 TL
theorem all_at {p : Nat → Bool} {l : List Nat} {i : Nat} {c : Nat} (h : l[i]? = some c) : (l.take (i + 1)).all p = ((l.take i).all p && p c) := by
  rw [List.take_add_one, h, List.all_append]; simp
theorem allS_at {p : List Nat → Bool} {l : List Str} {i : Nat} {c : Str} (h : l[i]? = some c) : ((l.take (i + 1)).map tl).all p = (((l.take i).map tl).all p && p (tl c)) := by
  rw [List.take_add_one, h, List.map_append, List.all_append]; simp
theorem strAt {xs : List Str} {i : Nat} {v : V} (h : (xs.map V.str)[i]? = some v) : ∃ x, xs[i]? = some x ∧ v = .str x := by
  rw [List.getElem?_map] at h
  cases e : xs[i]? with
  | none => rw [e] at h; cases h
  | some x => rw [e] at h; exact ⟨x, rfl, (Option.some.inj h).symm⟩
/-- a text with f, or a value that is no text -/
def TxV (f : List Nat → Bool) (K : PySem.W.Frag) (H : Hp) (v : V) (b : Bool) : Prop :=
  (∃ x : Str, v = .str x ∧ x.length ≤ 1000000 ∧ b = f (tl x)) ∨ (∃ t : Value, TyX K H v t ∧ PySem.W.kitOne K t (.type "str") = some false ∧ b = false)
theorem kit_str (K : PySem.W.Frag) : PySem.W.kitOne K (.type "str") (.type "str") = some true := kit_ty (by decide +kernel)
theorem TxV.of {f : List Nat → Bool} {K : PySem.W.Frag} {H : Hp} {x : Str} (h : x.length ≤ 1000000) : TxV f K H (.str x) (f (tl x)) := .inl ⟨x, rfl, h, rfl⟩
end Kb

namespace Kb
open PySem PySem.Spec PyProof.Rows L2 TL
/-! ### paths as lists of signs -/
/-- a sign that a path may have -/
def psign (c : Nat) : Bool := decide (33 ≤ c) && decide (c ≤ 126) && (decide (c ≠ 59) && decide (c ≠ 63) && decide (c ≠ 35)) && decide (c ≠ 37)
def pathB (l : List Nat) : Bool := decide (l.length ≤ 200) && ([47].isPrefixOf l && l.all psign)
def pfB (p q : List Nat) : Bool := decide (p = q) || (q.isPrefixOf p && ([47].isSuffixOf q || p[q.length]? == some 47))
/-- all in front of the last slash, or a slash -/
def dflt (l : List Nat) : List Nat := if joinL [47] (sp1 47 l).dropLast = [] then [47] else joinL [47] (sp1 47 l).dropLast
theorem tl_slash : tl ("/" : Str) = [47] := by decide +kernel
theorem slash_eq : ("/" : Str) = ⟨#[47]⟩ := ext_tl tl_slash
theorem dflt_cut {l a b : List Nat} (e : l = a ++ 47 :: b) (hb : 47 ∉ b) : dflt l = if a = [] then [47] else a := by
  unfold dflt
  have : (sp1 47 l).dropLast = sp1 47 a := by
    rw [e, sp1_app, sp1_of_free hb, List.dropLast_concat]
  rw [this, joinL_sp1]
theorem pathB_len {x : Str} (h : pathB (tl x) = true) : x.length ≤ 200 := by
  unfold pathB at h
  rw [Bool.and_eq_true, decide_eq_true_eq] at h
  rw [len_tl]; exact h.1
theorem pathB_head {x : Str} (h : pathB (tl x) = true) : ∃ r, tl x = 47 :: r := by
  unfold pathB at h
  rw [Bool.and_eq_true, Bool.and_eq_true, List.isPrefixOf_iff_prefix] at h
  obtain ⟨r, e⟩ := h.2.1
  exact ⟨r, e.symm⟩
/-- the signs a, b, the dot and the slash -/
def sgn4 (z : Str) : Bool := (tl z).all fun c => c == 47 || c == 97 || c == 98 || c == 46
def PathQ (m : Nat) (x : Str) : Prop := (∃ r, tl x = 47 :: r) ∧ sgn4 x = true ∧ x.length ≤ m
theorem sgn4_app {x y : Str} (h1 : sgn4 x = true) (h2 : sgn4 y = true) : sgn4 (x ++ y) = true := by
  unfold sgn4 at *
  rw [tl_append, List.all_append, h1, h2]; rfl
theorem PathQ.app {m k : Nat} {x y : Str} (h : PathQ m x) (h2 : sgn4 y = true) (h3 : y.length ≤ k) : PathQ (m + k) (x ++ y) := by
  obtain ⟨⟨r, e⟩, h1, h4⟩ := h
  refine ⟨⟨r ++ tl y, by rw [tl_append, e]; rfl⟩, sgn4_app h1 h2, ?_⟩
  rw [Str.length_append]; omega
theorem PathQ.more {m k : Nat} {x : Str} (h : PathQ m x) (e : m ≤ k) : PathQ k x := ⟨h.1, h.2.1, Nat.le_trans h.2.2 e⟩
theorem PathQ.path {m : Nat} {x : Str} (h : PathQ m x) (e : m ≤ 200) : pathB (tl x) = true := by
  obtain ⟨⟨r, e1⟩, h2, h3⟩ := h
  unfold pathB
  rw [decide_eq_true (by rw [len_tl] at h3; omega), Bool.true_and]
  have a : [47].isPrefixOf (tl x) = true := List.isPrefixOf_iff_prefix.mpr ⟨r, e1.symm⟩
  rw [a, Bool.true_and, List.all_eq_true]
  intro s hs
  unfold sgn4 at h2
  rw [List.all_eq_true] at h2
  have := h2 s hs
  simp only [Bool.or_eq_true, beq_iff_eq] at this
  rcases this with ((rfl | rfl) | rfl) | rfl <;> decide
/-- the default path: a part of it -/
theorem dflt_cases {l r : List Nat} (e : l = 47 :: r) : ∃ a b, l = a ++ 47 :: b ∧ 47 ∉ b ∧ ((a = [] ∧ dflt l = [47]) ∨ (a ≠ [] ∧ dflt l = a)) := by
  obtain ⟨a, b, e2, hb⟩ := last_cut (c := 47) (l := l) (by rw [e]; exact List.mem_cons_self ..)
  refine ⟨a, b, e2, hb, ?_⟩
  by_cases ha : a = []
  · exact .inl ⟨ha, by rw [dflt_cut e2 hb, if_pos ha]⟩
  · exact .inr ⟨ha, by rw [dflt_cut e2 hb, if_neg ha]⟩
theorem dflt_head {l r : List Nat} (e : l = 47 :: r) : ∃ r2, dflt l = 47 :: r2 := by
  obtain ⟨a, b, e2, hb, (⟨ha, h⟩ | ⟨ha, h⟩)⟩ := dflt_cases e
  · exact ⟨[], h⟩
  · rw [h]
    obtain ⟨x, a2, rfl⟩ := List.exists_cons_of_ne_nil ha
    rw [e] at e2
    simp only [List.cons_append, List.cons.injEq] at e2
    exact ⟨a2, by rw [← e2.1]⟩
theorem dflt_sub {l r : List Nat} (e : l = 47 :: r) : (dflt l).length ≤ l.length ∧ ∀ c ∈ dflt l, c ∈ l := by
  obtain ⟨a, b, e2, hb, (⟨ha, h⟩ | ⟨ha, h⟩)⟩ := dflt_cases e
  · rw [h, e]
    exact ⟨by simp, fun c hc => by rw [List.mem_singleton.mp hc]; exact List.mem_cons_self ..⟩
  · rw [h, e2]
    exact ⟨by simp, fun c hc => List.mem_append_left _ hc⟩
theorem dflt_less {l r : List Nat} (e : l = 47 :: r) (h0 : l ≠ [47]) : (dflt l).length < l.length := by
  obtain ⟨a, b, e2, hb, (⟨ha, h⟩ | ⟨ha, h⟩)⟩ := dflt_cases e
  · rw [h, e2, ha]
    cases b with
    | nil => exact absurd (by rw [e2, ha]; rfl) h0
    | cons x b => simp
  · rw [h, e2]; simp
theorem PathQ.dflt {m : Nat} {x y : Str} (h : PathQ m x) (e : tl y = dflt (tl x)) : PathQ m y := by
  obtain ⟨⟨r, e1⟩, h2, h3⟩ := h
  obtain ⟨h4, h5⟩ := dflt_sub e1
  obtain ⟨r2, e2⟩ := dflt_head e1
  refine ⟨⟨r2, by rw [e, e2]⟩, ?_, ?_⟩
  · unfold sgn4 at *
    rw [List.all_eq_true] at *
    intro c hc
    rw [e] at hc
    exact h2 c (h5 c hc)
  · rw [len_tl, e]
    rw [len_tl] at h3
    omega
/-! ### to fit is an order -/
theorem pf_iff {p q : List Nat} : pfB p q = true ↔ p = q ∨ (q <+: p ∧ ((∃ r, q = r ++ [47]) ∨ p[q.length]? = some 47)) := by
  unfold pfB
  rw [Bool.or_eq_true, Bool.and_eq_true, Bool.or_eq_true, decide_eq_true_eq, List.isPrefixOf_iff_prefix, List.isSuffixOf_iff_suffix, beq_iff_eq]
  constructor
  · rintro (h | ⟨h, (⟨r, e⟩ | h2)⟩)
    · exact .inl h
    · exact .inr ⟨h, .inl ⟨r, e.symm⟩⟩
    · exact .inr ⟨h, .inr h2⟩
  · rintro (h | ⟨h, (⟨r, e⟩ | h2)⟩)
    · exact .inl h
    · exact .inr ⟨h, .inl ⟨r, e.symm⟩⟩
    · exact .inr ⟨h, .inr h2⟩
theorem pf_self (p : List Nat) : pfB p p = true := pf_iff.mpr (.inl rfl)
theorem pf_slash {p r : List Nat} (e : p = 47 :: r) : pfB p [47] = true := pf_iff.mpr (.inr ⟨⟨r, e.symm⟩, .inl ⟨[], rfl⟩⟩)
theorem pf_pre {p q : List Nat} (h : pfB p q = true) : q <+: p := by
  rcases pf_iff.mp h with rfl | h
  · exact List.prefix_refl _
  · exact h.1
theorem pf_anti {p q : List Nat} (h : pfB p q = true) (k : pfB q p = true) : p = q := by
  have a := pf_pre h
  have b := pf_pre k
  exact b.eq_of_length (Nat.le_antisymm b.length_le a.length_le)
theorem pre_at {p q : List Nat} (h : q <+: p) {i : Nat} (hi : i < q.length) : p[i]? = q[i]? := by
  obtain ⟨r, rfl⟩ := h
  rw [List.getElem?_append_left hi]
theorem pf_trans {p q r : List Nat} (h : pfB p q = true) (k : pfB q r = true) : pfB p r = true := by
  rcases pf_iff.mp k with rfl | ⟨k1, k2⟩
  · exact h
  have a := pf_pre h
  refine pf_iff.mpr (.inr ⟨k1.trans a, ?_⟩)
  rcases k2 with k2 | k2
  · exact .inl k2
  · have : r.length < q.length := by
      have := (List.getElem?_eq_some_iff.mp k2).1
      exact this
    exact .inr (by rw [pre_at a this]; exact k2)
theorem pf_comp {p q r : List Nat} (h : pfB p q = true) (k : pfB p r = true) (hl : q.length ≤ r.length) : pfB r q = true := by
  have a := pf_pre h
  have b := pf_pre k
  have c : q <+: r := List.prefix_of_prefix_length_le a b hl
  rcases Nat.lt_or_ge q.length r.length with g | g
  · rcases pf_iff.mp h with rfl | ⟨_, h2⟩
    · have := b.length_le
      omega
    · refine pf_iff.mpr (.inr ⟨c, ?_⟩)
      rcases h2 with h2 | h2
      · exact .inl h2
      · exact .inr (by rw [← pre_at b g]; exact h2)
  · exact pf_iff.mpr (.inl (c.eq_of_length (Nat.le_antisymm hl g)).symm)
theorem pf_dflt {p r : List Nat} (e : p = 47 :: r) : pfB p (dflt p) = true := by
  obtain ⟨a, b, e2, hb, (⟨ha, h⟩ | ⟨ha, h⟩)⟩ := dflt_cases e
  · rw [h]; exact pf_slash e
  · rw [h]
    exact pf_iff.mpr (.inr ⟨⟨47 :: b, e2.symm⟩, .inr (by rw [e2]; simp)⟩)
end Kb

namespace Pf
open PySem PySem.Spec PyProof.Rows L2 TL Kb
def top (i : Nat) : Stmt := PySem.Challenge.pw_crumbjar_k11_paths_that_fit.main.body.getD i (.Pass ⟨0, 0, 0, 0⟩)
abbrev s__is_path_sign : Stmt := top 11
theorem sc__is_path_sign : FnScope ["sign"] ["sign"] (defScope s__is_path_sign) := ⟨rfl, rfl, rfl, by decide +kernel, rfl, by decide +kernel, by decide +kernel⟩
abbrev s_is_path : Stmt := top 7
theorem sc_is_path : FnScope ["value", "sign"] ["value"] (defScope s_is_path) := ⟨rfl, rfl, rfl, by decide +kernel, rfl, by decide +kernel, by decide +kernel⟩
abbrev s__need_path : Stmt := top 10
theorem sc__need_path : FnScope ["path"] ["path"] (defScope s__need_path) := ⟨rfl, rfl, rfl, by decide +kernel, rfl, by decide +kernel, by decide +kernel⟩
abbrev s_default_path : Stmt := top 8
theorem sc_default_path : FnScope ["path"] ["path"] (defScope s_default_path) := ⟨rfl, rfl, rfl, by decide +kernel, rfl, by decide +kernel, by decide +kernel⟩
abbrev s_path_fits : Stmt := top 9
theorem sc_path_fits : FnScope ["path", "own"] ["path", "own"] (defScope s_path_fits) := ⟨rfl, rfl, rfl, by decide +kernel, rfl, by decide +kernel, by decide +kernel⟩
abbrev s__law_draw : Stmt := top 14
theorem sc__law_draw : FnScope ["cell", "k"] ["cell", "k"] (defScope s__law_draw) := ⟨rfl, rfl, rfl, by decide +kernel, rfl, by decide +kernel, by decide +kernel⟩
abbrev s__law_mixed : Stmt := top 13
theorem sc__law_mixed : FnScope ["cell", "k", "one"] ["cell", "k"] (defScope s__law_mixed) := ⟨rfl, rfl, rfl, by decide +kernel, rfl, by decide +kernel, by decide +kernel⟩
abbrev s__law_digit : Stmt := top 15
theorem sc__law_digit : FnScope ["draw", "span", "j", "found"] ["draw", "span"] (defScope s__law_digit) := ⟨rfl, rfl, rfl, by decide +kernel, rfl, by decide +kernel, by decide +kernel⟩
abbrev s__law_path : Stmt := top 16
theorem sc__law_path : FnScope ["draw", "found", "j"] ["draw"] (defScope s__law_path) := ⟨rfl, rfl, rfl, by decide +kernel, rfl, by decide +kernel, by decide +kernel⟩
abbrev s__law_pair : Stmt := top 17
theorem sc__law_pair : FnScope ["draw", "path", "way"] ["draw"] (defScope s__law_pair) := ⟨rfl, rfl, rfl, by decide +kernel, rfl, by decide +kernel, by decide +kernel⟩
abbrev s__law_due : Stmt := top 18
theorem sc__law_due : FnScope ["path", "own", "parts", "first"] ["path", "own"] (defScope s__law_due) := ⟨rfl, rfl, rfl, by decide +kernel, rfl, by decide +kernel, by decide +kernel⟩
abbrev s_law : Stmt := top 19
theorem sc_law : FnScope ["script", "k", "amount", "draw", "turn", "path", "own", "some", "parts"] ["script"] (defScope s_law) := ⟨rfl, rfl, rfl, by decide +kernel, rfl, by decide +kernel, by decide +kernel⟩
/-- what the top has written -/
structure Txt (K : PySem.W.Frag) (mg : Str → Option Value) : Prop where
  b_enumerate : mg "enumerate" = none
  b_int : mg "int" = none
  b_isinstance : mg "isinstance" = none
  b_len : mg "len" = none
  b_ord : mg "ord" = none
  b_range : mg "range" = none
  b_str : mg "str" = none
  b_sum : mg "sum" = none
  c_MOST_OF_PATH : ∃ u, mg "MOST_OF_PATH" = some u ∧ RelV (.int 200) u
  c_BARRED : ∃ u, mg "BARRED" = some u ∧ RelV (.str ";?#") u
  c_PERCENT : ∃ u, mg "PERCENT" = some u ∧ RelV (.int 37) u
  d__is_path_sign : Df K mg "_is_path_sign" s__is_path_sign ["sign"]
  d_is_path : Df K mg "is_path" s_is_path ["value"]
  d__need_path : Df K mg "_need_path" s__need_path ["path"]
  d_default_path : Df K mg "default_path" s_default_path ["path"]
  d_path_fits : Df K mg "path_fits" s_path_fits ["path", "own"]
  d__law_draw : Df K mg "_law_draw" s__law_draw ["cell", "k"]
  d__law_mixed : Df K mg "_law_mixed" s__law_mixed ["cell", "k"]
  d__law_digit : Df K mg "_law_digit" s__law_digit ["draw", "span"]
  d__law_path : Df K mg "_law_path" s__law_path ["draw"]
  d__law_pair : Df K mg "_law_pair" s__law_pair ["draw"]
  d__law_due : Df K mg "_law_due" s__law_due ["path", "own"]
def sp__is_path_sign : Sp := fun vs H Q _ => ∃ c : Nat, vs = [.str ⟨#[c]⟩] ∧ Q (.bl (psign c)) H
theorem psign_eq (c : Nat) : psign c = if (!decide (tl (⟨#[c]⟩ : Str) < tl ("!" : Str))) = true then (if (!decide (tl ("~" : Str) < tl (⟨#[c]⟩ : Str))) = true then (if (!decide (c ∈ tl (";?#" : Str))) = true then !decide ((c : Int) = 37) else false) else false) else false := by
  have e1 : tl ("!" : Str) = [33] := by decide +kernel
  have e2 : tl ("~" : Str) = [126] := by decide +kernel
  have e3 : tl (";?#" : Str) = [59, 63, 35] := by decide +kernel
  have e4 : tl (⟨#[c]⟩ : Str) = [c] := rfl
  rw [e1, e2, e3, e4]
  have l1 : ([c] : List Nat) < [33] ↔ c < 33 := by simp [List.cons_lt_cons_iff]
  have l2 : ([126] : List Nat) < [c] ↔ 126 < c := by simp [List.cons_lt_cons_iff]
  have l3 : ((c : Int) = 37) ↔ c = 37 := by omega
  simp only [l1, l2, l3, psign, List.mem_cons, List.not_mem_nil, or_false]
  by_cases h1 : c < 33
  · have : ¬ 33 ≤ c := by omega
    simp [h1, this]
  · have : 33 ≤ c := by omega
    by_cases h2 : 126 < c
    · have h3 : ¬ c ≤ 126 := by omega
      simp [h1, h2, h3]
    · have h3 : c ≤ 126 := by omega
      by_cases q1 : c = 59 <;> by_cases q2 : c = 63 <;> by_cases q3 : c = 35 <;> simp [h1, h2, h3, this, q1, q2, q3]
def sp_is_path (K : PySem.W.Frag) : Sp := fun vs H Q _ => ∃ (v : V) (b : Bool), vs = [v] ∧ TxV pathB K H v b ∧ Q (.bl b) H
def sp__need_path (K : PySem.W.Frag) : Sp := fun vs H Q _ => ∃ v : V, vs = [v] ∧ TxV pathB K H v true ∧ Q .non H
def sp_default_path : Sp := fun vs H Q _ => ∃ x : Str, vs = [.str x] ∧ pathB (tl x) = true ∧ ∀ (y : Str) (H' : Hp), Same H H' → tl y = dflt (tl x) → Q (.str y) H'
theorem pathV_of {K : PySem.W.Frag} {H : Hp} {x : Str} (h : pathB (tl x) = true) : TxV pathB K H (.str x) true := .inl ⟨x, rfl, Nat.le_trans (pathB_len h) (by decide), h.symm⟩
def sp_path_fits : Sp := fun vs H Q _ => ∃ x y : Str, vs = [.str x, .str y] ∧ pathB (tl x) = true ∧ pathB (tl y) = true ∧ Q (.bl (pfB (tl x) (tl y))) H
theorem one_slash (c : Nat) : decide (V.str ⟨#[c]⟩ = V.str ("/" : Str)) = (c == 47) := by
  rw [slash_eq, dec_str, Bool.eq_iff_iff, beq_iff_eq, beq_iff_eq, str_eq_iff]
  show [c] = [47] ↔ _
  simp
/-- a new draw -/
def sp__law_draw : Sp := fun vs H Q _ => ∃ c k : Int, vs = [.int c, .int k] ∧ 0 ≤ k ∧ k ≤ 1000 ∧ ∀ (d : Addr) (H' : Hp), Same H H' → H d = none → DrawAt H' d 200000000 → Q (.ref d) H'
theorem dkv_merge (l c t : Int) : mergeK [] (dkv l c t) = dkv l c t := by
  simp [mergeK, dkv, putK, kne1, kne2, kne3]
/-- some number below 2147483647 -/
def sp__law_mixed : Sp := fun vs H Q _ => ∃ c k : Int, vs = [.int c, .int k] ∧ 0 ≤ k ∧ k ≤ 1000000000 ∧ ∀ (r : Int) (H' : Hp), Same H H' → 0 ≤ r → r < 2147483647 → Q (.int r) H'
/-- some number below the span -/
def sp__law_digit : Sp := fun vs H Q _ => ∃ (d : Addr) (sp : Int) (n : Nat), vs = [.ref d, .int sp] ∧ 0 < sp ∧ sp < 4000000000 ∧ DrawAt H d (n + 1) ∧
  ∀ (r : Int) (H' : Hp), 0 ≤ r → r < sp → Keep d H H' → DrawAt H' d n → Q (.int r) H'
theorem small15 {n : Nat} (h : n ≤ 15) : n < sizeLine := Nat.lt_of_le_of_lt h (by decide)
def sp__law_path : Sp := fun vs H Q _ => ∃ (d : Addr) (n : Nat), vs = [.ref d] ∧ DrawAt H d (n + 20) ∧
  ∀ (x : Str) (H' : Hp), PathQ 30 x → Keep d H H' → DrawAt H' d n → Q (.str x) H'
theorem sgn4_take {z : Str} {l : List Nat} {k : Nat} (h : sgn4 z = true) (e : l = (tl z).take k) : sgn4 ⟨l.toArray⟩ = true := by
  unfold sgn4 at *
  rw [List.all_eq_true] at h ⊢
  intro c hc
  have hc : c ∈ l := hc
  rw [e] at hc
  exact h c (List.mem_of_mem_take hc)
theorem PathQ_cut {m : Nat} {x : Str} {i : Int} (h : PathQ m x) (h0 : 1 ≤ i) : PathQ m (cutS x none (some i)) := by
  obtain ⟨⟨r, e⟩, h1, h2⟩ := h
  have e2 := cutS_to x (i := i) (by omega)
  obtain ⟨k, hk⟩ : ∃ k, i.toNat = k + 1 := ⟨i.toNat - 1, by omega⟩
  refine ⟨⟨r.take k, by rw [e2, e, hk, List.take_succ_cons]⟩, ?_, ?_⟩
  · have := sgn4_take (l := tl (cutS x none (some i))) h1 e2
    rw [mk_tl] at this
    exact this
  · rw [len_tl, e2, List.length_take]
    rw [len_tl] at h2
    omega
def sp__law_pair : Sp := fun vs H Q _ => ∃ (d : Addr) (n : Nat), vs = [.ref d] ∧ DrawAt H d (n + 50) ∧
  ∀ (p : Addr) (x y : Str) (H' : Hp), PathQ 60 x → PathQ 60 y → Keep d H H' → H' p = some (.tup [.str x, .str y]) → DrawAt H' d n → Q (.ref p) H'
def okS (x : Str) : Prop := x.length ≤ 1000 ∧ ∀ s ∈ tl x, s < 1114112
theorem due_a {p q r : List Nat} (hne : p ≠ q) (e : q = r ++ [47]) : pfB p q = (decide ((sp1 47 q).length ≤ (sp1 47 p).length) && decide ((sp1 47 p).take ((sp1 47 q).length - 1) = (sp1 47 q).dropLast)) := by
  have h1 : sp1 47 q = sp1 47 r ++ [[]] := by rw [e, sp1_app]; rfl
  have h2 := sp1_prefix 47 r p
  rw [h1, List.dropLast_concat, List.length_append, List.length_singleton, Nat.add_sub_cancel]
  unfold pfB
  rw [decide_eq_false hne, Bool.false_or, Bool.eq_iff_iff]
  have h3 : [47].isSuffixOf q = true := List.isSuffixOf_iff_suffix.mpr ⟨r, e.symm⟩
  rw [h3, Bool.true_or, Bool.and_true, List.isPrefixOf_iff_prefix, e, ← h2, Bool.and_eq_true, decide_eq_true_eq, decide_eq_true_eq]
  constructor
  · rintro ⟨a, b⟩; exact ⟨by omega, b⟩
  · rintro ⟨a, b⟩; exact ⟨by omega, b⟩
theorem due_b {p q : List Nat} (hne : p ≠ q) (e : [47].isSuffixOf q = false) : pfB p q = (decide ((sp1 47 q).length < (sp1 47 p).length) && decide ((sp1 47 p).take ((sp1 47 q).length) = sp1 47 q)) := by
  have h2 := sp1_prefix 47 q p
  unfold pfB
  rw [decide_eq_false hne, Bool.false_or, e, Bool.false_or, Bool.eq_iff_iff, Bool.and_eq_true, Bool.and_eq_true, List.isPrefixOf_iff_prefix, beq_iff_eq, ← prefix_snoc, ← h2, decide_eq_true_eq, decide_eq_true_eq]
def sp__law_due : Sp := fun vs H Q _ => ∃ x y : Str, vs = [.str x, .str y] ∧ okS x ∧ okS y ∧ tl y ≠ [] ∧ ∀ H', Same H H' → Q (.bl (pfB (tl x) (tl y))) H'
def sp_law (K : PySem.W.Frag) : Sp := fun vs H Q _ => ∃ (a : Addr) (ns : List Int), vs = [.ref a] ∧ SqL K H a (ns.map V.int) ∧ ns.length ≤ 63 ∧ ∀ H', Q (.bl true) H'
theorem PathQ_okS {m : Nat} {x : Str} (h : PathQ m x) (e : m ≤ 1000) : okS x := ⟨Nat.le_trans h.2.2 e, fun s hs => by
  have := h.2.1
  unfold sgn4 at this
  rw [List.all_eq_true] at this
  have := this s hs
  simp only [Bool.or_eq_true, beq_iff_eq] at this
  omega⟩
theorem dflt_due {z : Str} {P : List Str} (e : P.map tl = sp1 47 (tl z)) (h : P.dropLast ≠ [("" : Str)]) (h0 : P.dropLast ≠ []) : dflt (tl z) = joinL [47] (P.dropLast.map tl) := by
  unfold Kb.dflt
  rw [← e, ← List.map_dropLast]
  refine if_neg fun q => ?_
  rcases joinL_nil q with q | q
  · exact h0 (List.map_eq_nil_iff.mp q)
  · refine h (map_tl_inj ?_)
    rw [q]; rfl
theorem dflt_due0 {z : Str} {P : List Str} (e : P.map tl = sp1 47 (tl z)) (h : P.dropLast = [("" : Str)]) : dflt (tl z) = [47] := by
  unfold Kb.dflt
  rw [← e, ← List.map_dropLast, h]
  exact if_pos rfl
section
variable {P : Program} {w : World} {K : PySem.W.Frag} {mg : Str → Option Value} {base : Heap}
theorem ok__is_path_sign (T : Txt K mg) : Cal P w K mg base CX0 1 "_is_path_sign" ["sign"] sp__is_path_sign := by
  refine T.d__is_path_sign.ok0 sc__is_path_sign (fun vs H Q E h => ?_) (fun f cdv A outer s H vs Q E hr h => ?_)
  · first | (obtain ⟨_, rfl, _⟩ := h; rfl) | (obtain ⟨_, _, rfl, _⟩ := h; rfl) | (obtain ⟨_, _, _, rfl, _⟩ := h; rfl) | (obtain ⟨_, _, _, _, rfl, _⟩ := h; rfl) | (obtain ⟨_, _, _, _, _, rfl, _⟩ := h; rfl)
  · refine ⟨_, (pss_one (ps_ret (pe_and (pe_chain (op_le_str) (op_le_str) pe_str (pv 0) pe_str) (pe_and (pe_cmpR (op_notIn_sign) (pv 0) (pe_gc (by rfl) T.c_BARRED) rfl) (pe_one (pe_cmpR (op_ne) (pe_callB call_ord (by rfl) T.b_ord (by decide +kernel) (pa_cons (pv 0) pa_nil)) (pe_gc (by rfl) T.c_PERCENT) (nomark _))))))), ?_⟩
    obtain ⟨c, rfl, hQ⟩ := h
    rw [psign_eq] at hQ
    refine ⟨_, rfl, _, _, rfl, rfl, _, rfl, ?_⟩
    refine iteB (fun h1 => ?_) (fun h1 => ?_)
    · rw [if_pos h1] at hQ
      refine ⟨_, _, rfl, rfl, _, rfl, ?_⟩
      refine iteB (fun h2 => ?_) (fun h2 => ?_)
      · rw [if_pos h2] at hQ
        refine ⟨_, rfl, _, _, rfl, rfl, _, rfl, ?_⟩
        refine iteB (fun h3 => ?_) (fun h3 => ?_)
        · rw [if_pos h3] at hQ
          refine ⟨_, rfl, _, rfl, rfl, rfl, ?_⟩
          have e : decide (V.int (((⟨#[c]⟩ : Str).cps.getD 0 0 : Nat) : Int) = V.int 37) = decide ((c : Int) = 37) := by
            rw [show ((⟨#[c]⟩ : Str).cps.getD 0 0) = c from rfl, dec_int]; rfl
          rw [e]
          exact hQ
        · rw [if_neg (by rw [h3]; exact Bool.false_ne_true)] at hQ
          exact hQ
      · rw [if_neg (by rw [h2]; exact Bool.false_ne_true)] at hQ
        exact hQ
    · rw [if_neg (by rw [h1]; exact Bool.false_ne_true)] at hQ
      exact ⟨_, rfl, iteF hQ⟩
theorem ok_is_path (T : Txt K mg) : Cal P w K mg base CX0 2 "is_path" ["value"] (sp_is_path K) := by
  refine T.d_is_path.ok0 sc_is_path (fun vs H Q E h => ?_) (fun f cdv A outer s H vs Q E hr h => ?_)
  · first | (obtain ⟨_, rfl, _⟩ := h; rfl) | (obtain ⟨_, _, rfl, _⟩ := h; rfl) | (obtain ⟨_, _, _, rfl, _⟩ := h; rfl) | (obtain ⟨_, _, _, _, rfl, _⟩ := h; rfl) | (obtain ⟨_, _, _, _, _, rfl, _⟩ := h; rfl)
  · refine ⟨_, (pss_cons (ps_if (PW.pt (pw_or (pt_not (pt_val (pe_callB call_isi (by rfl) T.b_isinstance (by decide +kernel) (pa_cons (pv 0) (pa_cons (pe_bltn (v := .ty "str") (by rfl) T.b_str (by decide +kernel) rfl) pa_nil))))) (pw_or (pt_cmpR (op_gt) (pe_callB call_len_str (by rfl) T.b_len (by decide +kernel) (pa_cons (pv 0) pa_nil)) (pe_gc (by rfl) T.c_MOST_OF_PATH) (nomark _)) (pw_or1 (pt_not (pt_val (pe_m1 PySem.F.slot_str_startswith PySem.F.type_str_startswith mt_startswith (pv 0) pe_str)))))))
      (pss_one (ps_ret pe_bl))
      pss_nil)
      (pss_cons (ps_for PassesOwn.never rfl (pi_str (pv 0)) (pg_name (i := 1) sc_is_path.nd rfl (by first | exact Or.inl rfl | exact Or.inr rfl))
      (pss_one (ps_if (pt_not (pt_val (pe_c (ok__is_path_sign T) hr (by decide) (by rfl) pass0 (pa_cons (pv 1) pa_nil))))
      (pss_one (ps_ret pe_bl))
      pss_nil)))
      (pss_one (ps_ret pe_bl)))), ?_⟩
    obtain ⟨v, b, rfl, hv, hQ⟩ := h
    rcases hv with ⟨x, rfl, hx, rfl⟩ | ⟨t, ht, hk, rfl⟩
    · refine ⟨_, rfl, _, _, _, _, true, rfl, .ty _, .base (.str x), kit_str K, _, rfl, iteF ?_⟩
      refine ⟨_, rfl, x, rfl, Nat.le_trans hx (by decide), _, _, rfl, rfl, _, rfl, iteB (fun h1 => ?_) (fun h1 => ?_)⟩
      · have h1 : (200 : Int) < (x.length : Int) := of_decide_eq_true h1
        have e : pathB (tl x) = false := by
          unfold pathB
          rw [decide_eq_false (by rw [len_tl] at h1; omega), Bool.false_and]
        rw [e] at hQ
        exact hQ
      · have h1 : ¬ (200 : Int) < (x.length : Int) := of_decide_eq_false h1
        have hl : (tl x).length ≤ 200 := by rw [len_tl] at h1; omega
        refine ⟨_, rfl, ⟨_, rfl⟩, _, _, rfl, rfl, _, rfl, ?_⟩
        rw [startswith_tl]
        have e47 : tl ("/" : Str) = [47] := by decide +kernel
        rw [e47]
        cases h2 : [47].isPrefixOf (tl x) with
        | false =>
          have e : pathB (tl x) = false := by
            unfold pathB
            rw [h2, Bool.false_and, Bool.and_false]
          rw [e] at hQ
          exact iteT hQ
        | true =>
          refine iteF ?_
          refine ⟨_, rfl, x, rfl, for_str (z := x) (fun i σ H1 => ∃ sv, σ = [some (.str x), sv] ∧ H1 = H ∧ ((tl x).take i).all psign = true) ⟨none, rfl, rfl, by simp⟩ ?_ ?_⟩
          · rintro i c σ H1 hc ⟨sv, rfl, rfl, ha⟩
            refine ⟨_, rfl, c, rfl, _, rfl, ?_⟩
            cases hp : psign c with
            | true => exact iteF ⟨_, rfl, rfl, by rw [all_at hc, ha, hp]; rfl⟩
            | false =>
              have e : pathB (tl x) = false := by
                unfold pathB
                have : (tl x).all psign = false := by
                  rw [List.all_eq_false]
                  exact ⟨c, List.mem_of_getElem? hc, by rw [hp]; exact Bool.false_ne_true⟩
                rw [this, Bool.and_false, Bool.and_false]
              rw [e] at hQ
              exact iteT hQ
          · rintro σ H1 ⟨sv, rfl, rfl, ha⟩
            rw [List.take_length] at ha
            have e : pathB (tl x) = true := by
              unfold pathB
              rw [decide_eq_true hl, h2, ha]; rfl
            rw [e] at hQ
            exact hQ
    · refine ⟨_, rfl, _, _, _, _, false, rfl, .ty _, ht, hk, _, rfl, iteT ?_⟩
      exact hQ
theorem ok__need_path (T : Txt K mg) : Cal P w K mg base CX0 3 "_need_path" ["path"] (sp__need_path K) := by
  refine T.d__need_path.ok0 sc__need_path (fun vs H Q E h => ?_) (fun f cdv A outer s H vs Q E hr h => ?_)
  · first | (obtain ⟨_, rfl, _⟩ := h; rfl) | (obtain ⟨_, _, rfl, _⟩ := h; rfl) | (obtain ⟨_, _, _, rfl, _⟩ := h; rfl) | (obtain ⟨_, _, _, _, rfl, _⟩ := h; rfl) | (obtain ⟨_, _, _, _, _, rfl, _⟩ := h; rfl)
  · refine ⟨_, (pss_one (ps_if (pt_not (pt_val (pe_c (ok_is_path T) hr (by decide) (by rfl) pass0 (pa_cons (pv 0) pa_nil))))
      (pss_one ps_never)
      pss_nil)), ?_⟩
    obtain ⟨v, rfl, hv, hQ⟩ := h
    exact ⟨_, rfl, v, true, rfl, hv, _, rfl, iteF hQ⟩
theorem ok_default_path (T : Txt K mg) : Cal P w K mg base CX0 4 "default_path" ["path"] sp_default_path := by
  refine T.d_default_path.ok0 sc_default_path (fun vs H Q E h => ?_) (fun f cdv A outer s H vs Q E hr h => ?_)
  · first | (obtain ⟨_, rfl, _⟩ := h; rfl) | (obtain ⟨_, _, rfl, _⟩ := h; rfl) | (obtain ⟨_, _, _, rfl, _⟩ := h; rfl) | (obtain ⟨_, _, _, _, rfl, _⟩ := h; rfl) | (obtain ⟨_, _, _, _, _, rfl, _⟩ := h; rfl)
  · refine ⟨_, (pss_cons (ps_expr (pe_c (ok__need_path T) hr (by decide) (by rfl) pass0 (pa_cons (pv 0) pa_nil)))
      (pss_one (ps_ret (pe_orT (pe_ix ix_tup (pe_m1 PySem.F.slot_str_rpartition PySem.F.type_str_rpartition mt_rpartition (pv 0) pe_str) pe_int (fun _ _ => rfl)) (pe_one pe_str))))), ?_⟩
    obtain ⟨x, rfl, hp, hQ⟩ := h
    have hl := pathB_len hp
    obtain ⟨r, hr47⟩ := pathB_head hp
    obtain ⟨a, b, e, hb⟩ := last_cut (c := 47) (l := tl x) (by rw [hr47]; exact List.mem_cons_self ..)
    refine ⟨_, rfl, _, rfl, pathV_of hp, ?_⟩
    refine ⟨_, rfl, ⟨_, rfl⟩, x, _, rfl, rfl, by decide +kernel, Nat.le_trans hl (by decide), fun p hpn => ?_⟩
    refine ⟨p, _, 0, _, rfl, rfl, SqT.of upd_same, rfl, ?_⟩
    have e1 : tl (Txt.rpartition x ("/" : Str)).1 = a := by
      rw [slash_eq]; exact rpartition_hit e hb
    have hal : (Txt.rpartition x ("/" : Str)).1.length ≤ 200 := by
      rw [len_tl, e1]
      rw [len_tl, e, List.length_append] at hl
      omega
    refine ⟨_, ⟨Nat.le_trans hal (by decide), rfl⟩, ?_⟩
    by_cases ha : a = []
    · have h0 : (Txt.rpartition x ("/" : Str)).1.length = 0 := by rw [len_tl, e1, ha]; rfl
      rw [h0]
      refine iteF (hQ _ _ (Same.new hpn) ?_)
      rw [dflt_cut e hb, if_pos ha, tl_slash]
    · have h0 : (Txt.rpartition x ("/" : Str)).1.length ≠ 0 := by
        rw [len_tl, e1]
        intro z
        exact ha (List.eq_nil_of_length_eq_zero z)
      have h1 : (((Txt.rpartition x ("/" : Str)).1.length : Int) != 0) = true := by
        rw [bne_iff_ne]; omega
      rw [h1]
      refine iteT (hQ _ _ (Same.new hpn) ?_)
      rw [dflt_cut e hb, if_neg ha, e1]
theorem ok_path_fits (T : Txt K mg) : Cal P w K mg base CX0 4 "path_fits" ["path", "own"] sp_path_fits := by
  refine T.d_path_fits.ok0 sc_path_fits (fun vs H Q E h => ?_) (fun f cdv A outer s H vs Q E hr h => ?_)
  · first | (obtain ⟨_, rfl, _⟩ := h; rfl) | (obtain ⟨_, _, rfl, _⟩ := h; rfl) | (obtain ⟨_, _, _, rfl, _⟩ := h; rfl) | (obtain ⟨_, _, _, _, rfl, _⟩ := h; rfl) | (obtain ⟨_, _, _, _, _, rfl, _⟩ := h; rfl)
  · refine ⟨_, (pss_cons (ps_expr (pe_c (ok__need_path T) hr (by decide) (by rfl) pass0 (pa_cons (pv 0) pa_nil)))
      (pss_cons (ps_expr (pe_c (ok__need_path T) hr (by decide) (by rfl) pass0 (pa_cons (pv 1) pa_nil)))
      (pss_cons (ps_if (pt_cmpR (op_eq) (pv 0) (pv 1) (nomark _))
      (pss_one (ps_ret pe_bl))
      pss_nil)
      (pss_one (ps_ret (pe_and (pe_m1 PySem.F.slot_str_startswith PySem.F.type_str_startswith mt_startswith (pv 0) (pv 1)) (pe_one (pe_or (pe_m1 PySem.F.slot_str_endswith PySem.F.type_str_endswith mt_endswith (pv 1) pe_str) (pe_one (pe_cmpR (op_eq) (pe_ix ix_str (pv 0) (pe_callB call_len_str (by rfl) T.b_len (by decide +kernel) (pa_cons (pv 1) pa_nil)) (fun _ _ => rfl)) pe_str (nomark _))))))))))), ?_⟩
    obtain ⟨x, y, rfl, hx, hy, hQ⟩ := h
    have hxl := pathB_len hx
    have hyl := pathB_len hy
    refine ⟨_, rfl, _, rfl, pathV_of hx, ?_⟩
    refine ⟨_, rfl, _, rfl, pathV_of hy, ?_⟩
    refine ⟨_, rfl, _, rfl, rfl, _, rfl, iteB (fun h1 => ?_) (fun h1 => ?_)⟩
    · have e : x = y := V.str.inj (of_decide_eq_true h1)
      subst e
      have : pfB (tl x) (tl x) = true := by unfold pfB; rw [decide_eq_true rfl, Bool.true_or]
      rw [this] at hQ
      exact hQ
    have hne : tl x ≠ tl y := fun e => of_decide_eq_false h1 (by rw [ext_tl e])
    have hd : decide (tl x = tl y) = false := decide_eq_false hne
    refine ⟨_, rfl, ⟨_, rfl⟩, _, rfl, _, _, rfl, rfl, _, rfl, ?_⟩
    rw [startswith_tl]
    unfold pfB at hQ
    rw [hd, Bool.false_or] at hQ
    cases h2 : (tl y).isPrefixOf (tl x) with
    | false =>
      rw [h2, Bool.false_and] at hQ
      exact iteF hQ
    | true =>
      rw [h2, Bool.true_and] at hQ
      refine iteT ?_
      have pre := List.isPrefixOf_iff_prefix.mp h2
      have hlt : (tl y).length < (tl x).length := by
        have := pre.length_le
        rcases Nat.lt_or_ge (tl y).length (tl x).length with q | q
        · exact q
        · exact absurd (pre.eq_of_length (by omega)).symm hne
      refine ⟨_, rfl, ⟨_, rfl⟩, _, _, rfl, rfl, _, rfl, ?_⟩
      rw [endswith_tl, tl_slash]
      cases h3 : [47].isSuffixOf (tl y) with
      | true =>
        rw [h3, Bool.true_or] at hQ
        exact iteT hQ
      | false =>
        rw [h3, Bool.false_or] at hQ
        refine iteF ?_
        have hc : (tl x)[(tl y).length]? = some (tl x)[(tl y).length] := List.getElem?_eq_getElem hlt
        have ha : atI x.cps.toList (y.length : Int) = some (tl x)[(tl y).length] := by rw [len_tl y]; exact atI_nat hc
        refine ⟨_, rfl, _, rfl, y, rfl, Nat.le_trans hyl (by decide), x, _, (tl x)[(tl y).length], rfl, rfl, Nat.le_trans hxl (by decide), ha, rfl, ?_⟩
        rw [one_slash]
        rw [hc] at hQ
        exact hQ
theorem ok__law_draw (T : Txt K mg) : Cal P w K mg base CX0 1 "_law_draw" ["cell", "k"] sp__law_draw := by
  refine T.d__law_draw.ok0 sc__law_draw (fun vs H Q E h => ?_) (fun f cdv A outer s H vs Q E hr h => ?_)
  · first | (obtain ⟨_, rfl, _⟩ := h; rfl) | (obtain ⟨_, _, rfl, _⟩ := h; rfl) | (obtain ⟨_, _, _, rfl, _⟩ := h; rfl) | (obtain ⟨_, _, _, _, rfl, _⟩ := h; rfl) | (obtain ⟨_, _, _, _, _, rfl, _⟩ := h; rfl)
  · refine ⟨_, (pss_one (ps_ret (pe_disp (pps_cons pe_str (pe_ifExp (pt_cmpR (op_ge) (pv 0) (pe_op op_pow pe_int pe_int) (nomark _)) (pv 0) pe_int) (pps_cons pe_str (pv 0) (pps_cons pe_str (pe_op op_mul pe_int (pv 1)) pps_nil))) rfl rfl (by simp) (by decide)))), ?_⟩
    obtain ⟨c, k, rfl, hk0, hk1, hQ⟩ := h
    have fin : ∀ l : Int, 0 ≤ l → ∀ p, H p = none → Q (.ref p) (upd (upd H p (.dK [])) p (.dK (mergeK [] (dkv l c (1000 * k))))) := fun l hl p hp =>
      hQ _ _ (fun b o e => by rw [upd_ne (ne_of_none e hp), upd_ne (ne_of_none e hp)]; exact e) hp ⟨l, c, 1000 * k, by rw [upd_same, dkv_merge], hl, by omega, by omega⟩
    intro p hp
    refine ⟨_, rfl, _, _, rfl, rfl, ⟨by decide, by decide, by decide⟩, _, _, rfl, rfl, _, rfl, ?_⟩
    refine iteB (fun hb => ?_) (fun hb => ?_)
    · have hc : (10 : Int) ^ (18 : Int).toNat ≤ c := of_decide_eq_true hb
      have h0 : (0 : Int) ≤ (10 : Int) ^ (18 : Int).toNat := by decide
      refine ⟨_, rfl, _, rfl, _, rfl, _, _, rfl, rfl, .inl ⟨by decide, by decide⟩, upd_same, dkv c c (1000 * k), rfl, by show 3 ≤ 15; decide, fin c (by omega) p hp⟩
    · refine ⟨_, rfl, _, rfl, _, _, rfl, rfl, .inl ⟨by decide, by decide⟩, upd_same, dkv 0 c (1000 * k), rfl, by show 3 ≤ 15; decide, fin 0 (by omega) p hp⟩
theorem ok__law_mixed (T : Txt K mg) : Cal P w K mg base CX0 1 "_law_mixed" ["cell", "k"] sp__law_mixed := by
  refine T.d__law_mixed.ok0 sc__law_mixed (fun vs H Q E h => ?_) (fun f cdv A outer s H vs Q E hr h => ?_)
  · first | (obtain ⟨_, rfl, _⟩ := h; rfl) | (obtain ⟨_, _, rfl, _⟩ := h; rfl) | (obtain ⟨_, _, _, rfl, _⟩ := h; rfl) | (obtain ⟨_, _, _, _, rfl, _⟩ := h; rfl) | (obtain ⟨_, _, _, _, _, rfl, _⟩ := h; rfl)
  · refine ⟨_, (pss_cons (ps_set (i := 2) sc__law_mixed.nd rfl (by first | exact Or.inl rfl | exact Or.inr rfl) (pe_op op_add (pe_op op_add (pe_op op_mod (pe_callTy call_int1 (by rfl) T.b_int (by decide +kernel) (pa_cons (pv 0) pa_nil)) (pe_ix ix_list (pe_lst (pa_cons pe_int (pa_cons pe_int (pa_cons pe_int (pa_cons pe_int pa_nil))))) (pe_op op_mod (pe_callTy call_int1 (by rfl) T.b_int (by decide +kernel) (pa_cons (pv 1) pa_nil)) pe_int) (fun _ _ => rfl))) (pe_op op_mul pe_int (pv 1))) pe_int))
      (pss_one (ps_ret (pe_op op_mod (pe_callTy call_int1 (by rfl) T.b_int (by decide +kernel) (pa_cons (pe_op op_mul (pe_op op_mod (pe_callTy call_int1 (by rfl) T.b_int (by decide +kernel) (pa_cons (pe_op op_mul (pv 2) (pv 2)) pa_nil)) pe_int) pe_int) pa_nil)) pe_int)))), ?_⟩
    obtain ⟨c, k, rfl, hk0, hk1, hQ⟩ := h
    refine ⟨_, rfl, .inl ⟨_, rfl, ?_⟩⟩
    refine ⟨by show 4 ≤ sizeLine; decide, fun p hp => ?_⟩
    refine ⟨_, rfl, .inl ⟨_, rfl, ?_⟩⟩
    refine ⟨_, _, rfl, rfl, by show (0 : Int) < 4; decide, ?_⟩
    obtain ⟨v, hv, ha⟩ := menu (xs := [V.int 1000000007, V.int 998244353, V.int 2147483629, V.int 1000000009]) (i := k % 4) (by omega) (by show k % 4 < 4; omega)
    obtain ⟨m, rfl, hm0, hm1⟩ : ∃ m : Int, v = .int m ∧ 0 < m ∧ m < 2147483647 := by
      simp only [List.mem_cons, List.not_mem_nil, or_false] at hv
      rcases hv with rfl | rfl | rfl | rfl <;> exact ⟨_, rfl, by decide, by decide⟩
    refine ⟨p, _, _, _, rfl, rfl, SqL.of upd_same, ha, ?_⟩
    refine ⟨_, _, rfl, rfl, hm0, ?_⟩
    refine ⟨_, rfl, _, _, rfl, rfl, .inl ⟨by decide, by decide⟩, ?_⟩
    refine ⟨_, _, rfl, rfl, ?_⟩
    refine ⟨_, _, rfl, rfl, ?_⟩
    have h1 : 0 ≤ c % m := Int.emod_nonneg _ (by omega)
    have h2 : c % m < m := Int.emod_lt_of_pos _ hm0
    generalize c % m = q at h1 h2 ⊢
    refine ⟨_, rfl, _, rfl, _, _, rfl, rfl, .inl ⟨by show (-(2 ^ 64) : Int) < q + 7919 * k + 13; omega, by show q + 7919 * k + 13 < (2 ^ 64 : Int); omega⟩, ?_⟩
    refine .inl ⟨_, rfl, ?_⟩
    refine ⟨_, _, rfl, rfl, by show (0 : Int) < 2147483647; decide, ?_⟩
    refine ⟨_, _, rfl, rfl, .inr ⟨by decide, by decide⟩, ?_⟩
    refine .inl ⟨_, rfl, ?_⟩
    refine ⟨_, _, rfl, rfl, by show (0 : Int) < 2147483647; decide, ?_⟩
    exact hQ _ _ (Same.new hp) (Int.emod_nonneg _ (by decide)) (Int.emod_lt_of_pos _ (by decide))
theorem ok__law_digit (T : Txt K mg) : Cal P w K mg base CX0 2 "_law_digit" ["draw", "span"] sp__law_digit := by
  refine T.d__law_digit.ok0 sc__law_digit (fun vs H Q E h => ?_) (fun f cdv A outer s H vs Q E hr h => ?_)
  · first | (obtain ⟨_, rfl, _⟩ := h; rfl) | (obtain ⟨_, _, rfl, _⟩ := h; rfl) | (obtain ⟨_, _, _, rfl, _⟩ := h; rfl) | (obtain ⟨_, _, _, _, rfl, _⟩ := h; rfl) | (obtain ⟨_, _, _, _, _, rfl, _⟩ := h; rfl)
  · have hu := hu_of hr
    refine ⟨_, (Evl.pss_cut (ps_if (pt_cmpR (op_eq) (pe_dget hu (pv 0) pe_str (fun _ _ => rfl)) pe_int (nomark _))
      (pss_one (ps_for PassesOwn.never rfl (pi_range1 (by rfl) T.b_range (pa_cons pe_int pa_nil)) (pg_name (i := 2) sc__law_digit.nd rfl (by first | exact Or.inl rfl | exact Or.inr rfl))
      (pss_cons (ps_dput hu (pv 0) pe_str (pe_op op_add (pe_dget hu (pv 0) pe_str (fun _ _ => rfl)) pe_int) rfl)
      (pss_one (ps_dput hu (pv 0) pe_str (pe_op op_add (pe_op op_mul (pe_dget hu (pv 0) pe_str (fun _ _ => rfl)) pe_int) (pe_c (ok__law_mixed T) hr (by decide) (by rfl) pass0 (pa_cons (pe_dget hu (pv 0) pe_str (fun _ _ => rfl)) (pa_cons (pe_dget hu (pv 0) pe_str (fun _ _ => rfl)) pa_nil)))) rfl)))))
      pss_nil)
      (pss_cons (ps_set (i := 3) sc__law_digit.nd rfl (by first | exact Or.inl rfl | exact Or.inr rfl) (pe_op op_mod (pe_callTy call_int1 (by rfl) T.b_int (by decide +kernel) (pa_cons (pe_dget hu (pv 0) pe_str (fun _ _ => rfl)) pa_nil)) (pv 1)))
      (pss_cons (ps_dput hu (pv 0) pe_str (pe_op op_fdivW (pe_callTy call_int1 (by rfl) T.b_int (by decide +kernel) (pa_cons (pe_dget hu (pv 0) pe_str (fun _ _ => rfl)) pa_nil)) (pv 1)) rfl)
      (pss_one (ps_ret (pv 3)))))), ?_⟩
    obtain ⟨d, sp, n, rfl, hs0, hs1, ⟨l, c, t, hd, hl, ht, hn⟩, hQ⟩ := h
    refine ⟨fun σ' H' => ∃ (j : Option V) (l1 t1 : Int), σ' = [some (.ref d), some (.int sp), j, none] ∧ Keep d H H' ∧ H' d = some (.dK (dkv l1 c t1)) ∧ 0 ≤ l1 ∧ 0 ≤ t1 ∧ t1 + 4 * (n : Int) ≤ 1000000000, ?_, ?_⟩
    · refine ⟨_, rfl, d, _, rfl, dget_left hd, rfl, _, rfl, ?_⟩
      refine iteB (fun hb => ?_) (fun hb => ?_)
      · refine ⟨4, rfl, by decide, by decide, for_range (n := 4) (fun i σ H1 => ∃ (j : Option V) (l1 t1 : Int), σ = [some (.ref d), some (.int sp), j, none] ∧ Keep d H H1 ∧ H1 d = some (.dK (dkv l1 c t1)) ∧ 0 ≤ l1 ∧ 0 ≤ t1 ∧ t1 = t + i) ⟨none, l, t, rfl, Keep.refl, hd, hl, ht, by simp⟩ ?_ ?_⟩
        · rintro i σ H1 hi ⟨j, l1, t1, rfl, k1, h1, hl1, ht1, et⟩
          refine ⟨_, rfl, d, _, rfl, dget_turns h1, _, _, rfl, rfl, _, rfl, d, _, rfl, dput_turns _ h1, ?_⟩
          have h2 : (upd H1 d (.dK (dkv l1 c (t1 + 1)))) d = some (.dK (dkv l1 c (t1 + 1))) := upd_same
          refine ⟨_, rfl, d, _, rfl, dget_left h2, _, _, rfl, rfl, .inr ⟨by decide, by decide⟩, _, rfl, d, _, rfl, dget_cell h2, _, rfl, d, _, rfl, dget_turns h2, ?_⟩
          refine ⟨_, _, rfl, by omega, by omega, fun r H3 s3 hr0 hr1 => ?_⟩
          refine ⟨_, _, rfl, rfl, _, rfl, d, _, rfl, dput_left _ (s3 _ _ h2), ?_⟩
          exact ⟨_, _, _, rfl, ((k1.upd).same s3).upd, upd_same, by omega, by omega, by omega⟩
        · rintro σ H1 ⟨j, l1, t1, rfl, k1, h1, hl1, ht1, et⟩
          exact ⟨j, l1, t1, rfl, k1, h1, hl1, ht1, by omega⟩
      · exact ⟨none, l, t, rfl, Keep.refl, hd, hl, ht, by omega⟩
    · rintro σ' H1 ⟨j, l1, t1, rfl, k1, h1, hl1, ht1, ht2⟩
      refine ⟨_, rfl, d, _, rfl, dget_left h1, .inl ⟨_, rfl, _, rfl, _, _, rfl, rfl, hs0, ?_⟩⟩
      refine ⟨_, rfl, d, _, rfl, dget_left h1, .inl ⟨_, rfl, _, rfl, _, _, rfl, rfl, ?_, _, rfl, d, _, rfl, dput_left _ h1, ?_⟩⟩
      · exact wide_div (b := 32) hs0 (by omega) (by decide) (by decide)
      · exact ⟨_, rfl, hQ _ _ (Int.emod_nonneg _ (by omega)) (Int.emod_lt_of_pos _ hs0) k1.upd ⟨_, _, _, upd_same, Int.ediv_nonneg hl1 (by omega), ht1, ht2⟩⟩
theorem ok__law_path (T : Txt K mg) : Cal P w K mg base CX0 3 "_law_path" ["draw"] sp__law_path := by
  refine T.d__law_path.ok0 sc__law_path (fun vs H Q E h => ?_) (fun f cdv A outer s H vs Q E hr h => ?_)
  · first | (obtain ⟨_, rfl, _⟩ := h; rfl) | (obtain ⟨_, _, rfl, _⟩ := h; rfl) | (obtain ⟨_, _, _, rfl, _⟩ := h; rfl) | (obtain ⟨_, _, _, _, rfl, _⟩ := h; rfl) | (obtain ⟨_, _, _, _, _, rfl, _⟩ := h; rfl)
  · refine ⟨_, (pss_cons (ps_set (i := 1) sc__law_path.nd rfl (by first | exact Or.inl rfl | exact Or.inr rfl) pe_str)
      (pss_cons (ps_for PassesOwn.never rfl (pi_range1 (by rfl) T.b_range (pa_cons (pe_c (ok__law_digit T) hr (by decide) (by rfl) pass0 (pa_cons (pv 0) (pa_cons pe_int pa_nil))) pa_nil)) (pg_name (i := 2) sc__law_path.nd rfl (by first | exact Or.inl rfl | exact Or.inr rfl))
      (pss_one (ps_set (i := 1) sc__law_path.nd rfl (by first | exact Or.inl rfl | exact Or.inr rfl) (pe_op op_add_str (pe_op op_add_str (pv 1) (pe_ix ix_list (pe_lst (pa_cons pe_str (pa_cons pe_str (pa_cons pe_str (pa_cons pe_str (pa_cons pe_str pa_nil)))))) (pe_c (ok__law_digit T) hr (by decide) (by rfl) pass0 (pa_cons (pv 0) (pa_cons pe_int pa_nil))) (fun _ _ => rfl))) (pe_ix ix_list (pe_lst (pa_cons pe_str (pa_cons pe_str (pa_cons pe_str (pa_cons pe_str pa_nil))))) (pe_c (ok__law_digit T) hr (by decide) (by rfl) pass0 (pa_cons (pv 0) (pa_cons pe_int pa_nil))) (fun _ _ => rfl))))))
      (pss_one (ps_ret (pv 1))))), ?_⟩
    obtain ⟨d, n, rfl, D, hQ⟩ := h
    refine ⟨_, rfl, d, 5, n + 19, rfl, by decide, by decide, D, fun r H1 hr0 hr1 k1 D1 => ?_⟩
    obtain ⟨m, rfl⟩ : ∃ m : Nat, r = (m : Int) := ⟨r.toNat, by omega⟩
    refine ⟨_, rfl, by omega, by omega, for_range (n := ((m : Int)).toNat) (fun i σ H2 => ∃ (x : Str) (j : Option V), σ = [some (.ref d), some (.str x), j] ∧ PathQ (1 + 5 * i) x ∧ Keep d H H2 ∧ DrawAt H2 d (n + 19 - 2 * i)) ⟨_, none, rfl, ⟨⟨[], by decide +kernel⟩, by decide +kernel, by decide +kernel⟩, k1, D1⟩ ?_ ?_⟩
    · rintro i σ H2 hi ⟨x, j, rfl, px, k2, D2⟩
      rw [Int.toNat_natCast] at hi
      refine ⟨_, rfl, by show 5 ≤ sizeLine; decide, fun p hp => ?_⟩
      have pd : p ≠ d := fun e => by obtain ⟨_, _, _, q, _⟩ := D2; rw [e, q] at hp; cases hp
      refine ⟨_, rfl, d, 5, n + 19 - 2 * i - 1, rfl, by decide, by decide, (D2.same (Same.new hp)).less (by omega), fun r1 H3 h0 h1 k3 D3 => ?_⟩
      obtain ⟨v, hv, ha⟩ := menu (xs := [V.str "a", V.str "ab", V.str "b", V.str "", V.str "a.b"]) (i := r1) h0 (by show r1 < 5; omega)
      obtain ⟨z, rfl, hz1, hz2⟩ : ∃ z : Str, v = .str z ∧ sgn4 z = true ∧ z.length ≤ 3 := by
        simp only [List.mem_cons, List.not_mem_nil, or_false] at hv
        rcases hv with rfl | rfl | rfl | rfl | rfl <;> exact ⟨_, rfl, by decide +kernel, by decide +kernel⟩
      refine ⟨p, _, _, _, rfl, rfl, SqL.of (k3 _ _ upd_same pd), ha, ?_⟩
      have px1 := px.app hz1 hz2
      have hl1 := px1.2.2
      rw [Str.length_append] at hl1
      refine ⟨_, _, rfl, rfl, Nat.le_trans (by omega : _ ≤ 1000) (by decide), ?_⟩
      refine ⟨by show 4 ≤ sizeLine; decide, fun p2 hp2 => ?_⟩
      have pd2 : p2 ≠ d := fun e => by obtain ⟨_, _, _, q, _⟩ := D3; rw [e, q] at hp2; cases hp2
      refine ⟨_, rfl, d, 4, n + 19 - 2 * i - 2, rfl, by decide, by decide, (D3.same (Same.new hp2)).less (by omega), fun r2 H4 h02 h12 k4 D4 => ?_⟩
      obtain ⟨v, hv, ha⟩ := menu (xs := [V.str "/", V.str "/", V.str "", V.str "//"]) (i := r2) h02 (by show r2 < 4; omega)
      obtain ⟨z2, rfl, hz3, hz4⟩ : ∃ z : Str, v = .str z ∧ sgn4 z = true ∧ z.length ≤ 2 := by
        simp only [List.mem_cons, List.not_mem_nil, or_false] at hv
        rcases hv with rfl | rfl | rfl | rfl <;> exact ⟨_, rfl, by decide +kernel, by decide +kernel⟩
      refine ⟨p2, _, _, _, rfl, rfl, SqL.of (k4 _ _ upd_same pd2), ha, ?_⟩
      have px2 := px1.app hz3 hz4
      have hl2 := px2.2.2
      rw [Str.length_append] at hl2
      refine ⟨_, _, rfl, rfl, Nat.le_trans (by omega : _ ≤ 1000) (by decide), ?_⟩
      exact ⟨_, _, rfl, px2.more (by omega), ((k2.same (Same.new hp)).trans k3).trans (Same.then (Same.new hp2) k4), D4.less (by omega)⟩
    · rintro σ H2 ⟨x, j, rfl, px, k2, D2⟩
      rw [Int.toNat_natCast] at px D2
      exact ⟨_, rfl, hQ _ _ (px.more (by omega)) k2 (D2.less (by omega))⟩
theorem ok__law_pair (T : Txt K mg) : Cal P w K mg base CX0 4 "_law_pair" ["draw"] sp__law_pair := by
  refine T.d__law_pair.ok0 sc__law_pair (fun vs H Q E h => ?_) (fun f cdv A outer s H vs Q E hr h => ?_)
  · first | (obtain ⟨_, rfl, _⟩ := h; rfl) | (obtain ⟨_, _, rfl, _⟩ := h; rfl) | (obtain ⟨_, _, _, rfl, _⟩ := h; rfl) | (obtain ⟨_, _, _, _, rfl, _⟩ := h; rfl) | (obtain ⟨_, _, _, _, _, rfl, _⟩ := h; rfl)
  · refine ⟨_, (pss_cons (ps_set (i := 1) sc__law_pair.nd rfl (by first | exact Or.inl rfl | exact Or.inr rfl) (pe_c (ok__law_path T) hr (by decide) (by rfl) pass0 (pa_cons (pv 0) pa_nil)))
      (pss_cons (ps_set (i := 2) sc__law_pair.nd rfl (by first | exact Or.inl rfl | exact Or.inr rfl) (pe_c (ok__law_digit T) hr (by decide) (by rfl) pass0 (pa_cons (pv 0) (pa_cons pe_int pa_nil))))
      (pss_cons (ps_if (pt_cmpR (op_eq) (pv 2) pe_int (nomark _))
      (pss_one (ps_ret (pe_tup (pa_cons (pv 1) (pa_cons (pe_c (ok__law_path T) hr (by decide) (by rfl) pass0 (pa_cons (pv 0) pa_nil)) pa_nil)))))
      pss_nil)
      (pss_cons (ps_if (pt_cmpR (op_eq) (pv 2) pe_int (nomark _))
      (pss_one (ps_ret (pe_tup (pa_cons (pe_op op_add_str (pv 1) (pe_ix ix_list (pe_lst (pa_cons pe_str (pa_cons pe_str (pa_cons pe_str (pa_cons pe_str pa_nil))))) (pe_c (ok__law_digit T) hr (by decide) (by rfl) pass0 (pa_cons (pv 0) (pa_cons pe_int pa_nil))) (fun _ _ => rfl))) (pa_cons (pv 1) pa_nil)))))
      pss_nil)
      (pss_cons (ps_if (pt_cmpR (op_eq) (pv 2) pe_int (nomark _))
      (pss_one (ps_ret (pe_tup (pa_cons (pv 1) (pa_cons (pv 1) pa_nil)))))
      pss_nil)
      (pss_one (ps_ret (pe_tup (pa_cons (pv 1) (pa_cons (pe_slice sl_str (pv 1) po_none (po_some (pe_op op_add pe_int (pe_c (ok__law_digit T) hr (by decide) (by rfl) pass0 (pa_cons (pv 0) (pa_cons (pe_callB call_len_str (by rfl) T.b_len (by decide +kernel) (pa_cons (pv 1) pa_nil)) pa_nil)))))) pa_nil)))))))))), ?_⟩
    obtain ⟨d, n, rfl, D, hQ⟩ := h
    have fin : ∀ (x y : Str) (H1 : Hp), PathQ 60 x → PathQ 60 y → Keep d H H1 → DrawAt H1 d n → ([V.str x, V.str y] : List V).length ≤ sizeLine ∧ ∀ p, H1 p = none → Q (.ref p) (upd H1 p (.tup [.str x, .str y])) := fun x y H1 hx hy k1 D1 =>
      ⟨by show 2 ≤ sizeLine; decide, fun p hp => hQ p x y _ hx hy (k1.same (Same.new hp)) upd_same (D1.same (Same.new hp))⟩
    refine ⟨_, rfl, d, n + 30, rfl, D, fun x H1 px k1 D1 => ?_⟩
    refine ⟨_, rfl, d, 5, n + 29, rfl, by decide, by decide, D1, fun r H2 hr0 hr1 k2 D2 => ?_⟩
    have k12 := k1.trans k2
    refine ⟨_, rfl, rfl, _, rfl, iteB (fun _ => ?_) (fun _ => ?_)⟩
    · refine ⟨_, rfl, _, rfl, d, n, rfl, D2.less (by omega), fun y H3 py k3 D3 => ?_⟩
      exact fin x y H3 (px.more (by decide)) (py.more (by decide)) (k12.trans k3) D3
    refine ⟨_, rfl, rfl, _, rfl, iteB (fun _ => ?_) (fun _ => ?_)⟩
    · refine ⟨_, rfl, by show 4 ≤ sizeLine; decide, fun p hp => ?_⟩
      have pd : p ≠ d := fun e => by obtain ⟨_, _, _, q, _⟩ := D2; rw [e, q] at hp; cases hp
      refine ⟨_, rfl, d, 4, n + 28, rfl, by decide, by decide, D2.same (Same.new hp), fun r1 H3 h0 h1 k3 D3 => ?_⟩
      obtain ⟨v, hv, ha⟩ := menu (xs := [V.str "a", V.str "/", V.str "/a", V.str "b/"]) (i := r1) h0 (by show r1 < 4; omega)
      obtain ⟨z, rfl, hz1, hz2⟩ : ∃ z : Str, v = .str z ∧ sgn4 z = true ∧ z.length ≤ 3 := by
        simp only [List.mem_cons, List.not_mem_nil, or_false] at hv
        rcases hv with rfl | rfl | rfl | rfl <;> exact ⟨_, rfl, by decide +kernel, by decide +kernel⟩
      refine ⟨p, _, _, _, rfl, rfl, SqL.of (k3 _ _ upd_same pd), ha, ?_⟩
      have px1 := px.app hz1 hz2
      have hl1 := px1.2.2
      rw [Str.length_append] at hl1
      refine ⟨_, _, rfl, rfl, Nat.le_trans (by omega : _ ≤ 1000) (by decide), _, rfl, ?_⟩
      exact fin _ x H3 (px1.more (by decide)) (px.more (by decide)) (k12.trans (Same.then (Same.new hp) k3)) (D3.less (by omega))
    refine ⟨_, rfl, rfl, _, rfl, iteB (fun _ => ?_) (fun _ => ?_)⟩
    · exact ⟨_, rfl, _, rfl, fin x x H2 (px.more (by decide)) (px.more (by decide)) k12 (D2.less (by omega))⟩
    have hxl := px.2.2
    obtain ⟨tlx, hx47⟩ := px.1
    have hpos : 0 < x.length := by rw [len_tl, hx47]; simp
    refine ⟨_, rfl, _, rfl, _, rfl, _, rfl, _, rfl, Nat.le_trans hxl (by decide), d, _, n + 28, rfl, by omega, by omega, D2, fun r1 H3 h0 h1 k3 D3 => ?_⟩
    refine ⟨_, _, rfl, rfl, _, rfl, _, rfl, Nat.le_trans hxl (by decide), ?_⟩
    exact fin x _ H3 (px.more (by decide)) ((PathQ_cut px (by omega)).more (by decide)) (k12.trans k3) (D3.less (by omega))
theorem ok__law_due (T : Txt K mg) : Cal P w K mg base CX0 1 "_law_due" ["path", "own"] sp__law_due := by
  refine T.d__law_due.ok0 sc__law_due (fun vs H Q E h => ?_) (fun f cdv A outer s H vs Q E hr h => ?_)
  · first | (obtain ⟨_, rfl, _⟩ := h; rfl) | (obtain ⟨_, _, rfl, _⟩ := h; rfl) | (obtain ⟨_, _, _, rfl, _⟩ := h; rfl) | (obtain ⟨_, _, _, _, rfl, _⟩ := h; rfl) | (obtain ⟨_, _, _, _, _, rfl, _⟩ := h; rfl)
  · refine ⟨_, (pss_cons (ps_if (pt_cmpR (op_eq) (pv 0) (pv 1) (nomark _))
      (pss_one (ps_ret pe_bl))
      pss_nil)
      (pss_cons (ps_par (i := 2) (j := 3) rfl sc__law_due.nd rfl rfl (by decide) rfl rfl (pa_cons (pe_split (pv 0) pe_str) (pa_cons (pe_split (pv 1) pe_str) pa_nil)) (by rfl))
      (pss_cons (ps_if (pt_cmpR (op_eq) (pe_ix ix_str (pv 1) (pe_un un_neg pe_int) (fun _ _ => rfl)) pe_str (nomark _))
      (pss_one (ps_ret (pe_and (pe_cmpR (op_ge) (pe_callB call_len_seq (by rfl) T.b_len (by decide +kernel) (pa_cons (pv 2) pa_nil)) (pe_callB call_len_seq (by rfl) T.b_len (by decide +kernel) (pa_cons (pv 3) pa_nil)) (nomark _)) (pe_one (pe_cmpR (op_eqD hr.units) (pe_slice sl_list (pv 2) po_none (po_some (pe_op op_sub (pe_callB call_len_seq (by rfl) T.b_len (by decide +kernel) (pa_cons (pv 3) pa_nil)) pe_int))) (pe_slice sl_list (pv 3) po_none (po_some (pe_un un_neg pe_int))) (nomark _))))))
      pss_nil)
      (pss_one (ps_ret (pe_and (pe_cmpR (op_gt) (pe_callB call_len_seq (by rfl) T.b_len (by decide +kernel) (pa_cons (pv 2) pa_nil)) (pe_callB call_len_seq (by rfl) T.b_len (by decide +kernel) (pa_cons (pv 3) pa_nil)) (nomark _)) (pe_one (pe_cmpR (op_eqD hr.units) (pe_slice sl_list (pv 2) po_none (po_some (pe_callB call_len_seq (by rfl) T.b_len (by decide +kernel) (pa_cons (pv 3) pa_nil)))) (pv 3) (nomark _))))))))), ?_⟩
    obtain ⟨x, y, rfl, ⟨hxl, hxs⟩, ⟨hyl, hys⟩, hy0, hQ⟩ := h
    refine ⟨_, rfl, _, rfl, rfl, _, rfl, iteB (fun h1 => ?_) (fun h1 => ?_)⟩
    · have e : x = y := V.str.inj (of_decide_eq_true h1)
      subst e
      have : pfB (tl x) (tl x) = true := by unfold pfB; rw [decide_eq_true rfl, Bool.true_or]
      rw [this] at hQ
      exact hQ _ (Same.refl _)
    have hne : tl x ≠ tl y := fun e => of_decide_eq_false h1 (by rw [ext_tl e])
    refine ⟨_, rfl, ⟨_, rfl⟩, _, _, rfl, rfl, by decide +kernel, Nat.le_trans (by omega : _ ≤ 10000) (by decide), fun p1 hp1 => ?_⟩
    refine ⟨_, rfl, ⟨_, rfl⟩, _, _, rfl, rfl, by decide +kernel, Nat.le_trans (by omega : _ ≤ 10000) (by decide), fun p2 hp2 => ?_⟩
    have s12 : Same H (upd (upd H p1 (.lst ((Txt.split x ("/" : Str)).map V.str))) p2 (.lst ((Txt.split y ("/" : Str)).map V.str))) := (Same.new hp1).trans (Same.new hp2)
    have n21 : p1 ≠ p2 := fun e => by rw [← e, upd_same] at hp2; cases hp2
    have m1 : (upd (upd H p1 (.lst ((Txt.split x ("/" : Str)).map V.str))) p2 (.lst ((Txt.split y ("/" : Str)).map V.str))) p1 = some (.lst ((Txt.split x ("/" : Str)).map V.str)) := by rw [upd_ne n21, upd_same]
    have m2 : (upd (upd H p1 (.lst ((Txt.split x ("/" : Str)).map V.str))) p2 (.lst ((Txt.split y ("/" : Str)).map V.str))) p2 = some (.lst ((Txt.split y ("/" : Str)).map V.str)) := upd_same
    have e1 := split_sp1 x (c := 47) (by decide)
    have e2 := split_sp1 y (c := 47) (by decide)
    have o1 := split_strOk (x := x) (c := 47) (by decide) hxs
    have o2 := split_strOk (x := y) (c := 47) (by decide) hys
    rw [← slash_eq] at e1 e2 o1 o2
    generalize Txt.split x ("/" : Str) = P at *
    generalize Txt.split y ("/" : Str) = F at *
    generalize hH2 : (upd (upd H p1 (.lst (P.map V.str))) p2 (.lst (F.map V.str))) = H2 at *
    have lP : P.length = (sp1 47 (tl x)).length := by rw [← e1, List.length_map]
    have lF : F.length = (sp1 47 (tl y)).length := by rw [← e2, List.length_map]
    refine ⟨_, _, rfl, ?_⟩
    obtain ⟨r, c, er⟩ := snoc_of_ne hy0
    have ha : atI y.cps.toList (-1) = some c := by
      show atI (tl y) (-1) = _
      rw [er]; exact atI_last r c
    refine ⟨_, rfl, _, rfl, y, _, c, rfl, rfl, Nat.le_trans hyl (by decide), ha, rfl, ?_⟩
    rw [one_slash]
    refine ⟨_, rfl, iteB (fun h2 => ?_) (fun h2 => ?_)⟩
    · have hc : c = 47 := eq_of_beq h2
      subst hc
      have key := due_a hne er
      rw [key] at hQ
      refine ⟨_, rfl, p1, _, rfl, .inl (SqL.of m1), _, rfl, p2, _, rfl, .inl (SqL.of m2), _, _, rfl, rfl, _, rfl, ?_⟩
      rw [List.length_map, List.length_map, lP, lF]
      have ec : decide (((sp1 47 (tl y)).length : Int) ≤ ((sp1 47 (tl x)).length : Int)) = decide ((sp1 47 (tl y)).length ≤ (sp1 47 (tl x)).length) := by
        rw [Bool.eq_iff_iff]; simp
      rw [ec]
      cases hk : decide ((sp1 47 (tl y)).length ≤ (sp1 47 (tl x)).length) with
      | false =>
        rw [hk, Bool.false_and] at hQ
        exact iteF (hQ _ s12)
      | true =>
        rw [hk, Bool.true_and] at hQ
        refine iteT ?_
        have f1 : 1 ≤ F.length := by
          rw [lF]; exact List.length_pos_iff.mpr (sp1_ne 47 _)
        have hc1 : cutV (P.map V.str) none (some (((F.map V.str).length : Int) - 1)) = (P.take (F.length - 1)).map V.str := by
          rw [cutV_to _ (by rw [List.length_map]; omega), List.length_map, List.map_take]
          congr 1; omega
        have hc2 : cutV (F.map V.str) none (some (-1)) = F.dropLast.map V.str := by rw [cutV_m1, List.map_dropLast]
        refine ⟨_, rfl, _, rfl, p2, _, rfl, .inl (SqL.of m2), _, _, rfl, rfl, _, rfl, p1, _, rfl, SqL.of m1, fun q1 hq1 => ?_⟩
        rw [hc1]
        have s3 : Same H2 (upd H2 q1 (.lst ((P.take (F.length - 1)).map V.str))) := Same.new hq1
        refine ⟨_, rfl, _, rfl, _, rfl, p2, _, rfl, SqL.of (s3 _ _ m2), fun q2 hq2 => ?_⟩
        rw [hc2]
        have s4 := Same.new (o := HO.lst (F.dropLast.map V.str)) hq2
        refine ⟨_, _, dp_strs (SqL.of (s4 _ _ upd_same)), dp_strs (SqL.of upd_same), shaped_strs fun z hz => o1 z (List.mem_of_mem_take hz), shaped_strs fun z hz => o2 z (List.dropLast_sublist F |>.subset hz), ?_⟩
        rw [show PyData.eqv (.list ((P.take (F.length - 1)).map PyData.str)) (.list (F.dropLast.map PyData.str)) = decide (P.take (F.length - 1) = F.dropLast) by rw [PyData.eqv, eqvAll_strs]]
        have hh := hQ _ (s12.trans (s3.trans s4))
        have ee : decide (P.take (F.length - 1) = F.dropLast) = decide (List.take ((sp1 47 (tl y)).length - 1) (sp1 47 (tl x)) = (sp1 47 (tl y)).dropLast) := by
          rw [Bool.eq_iff_iff, decide_eq_true_eq, decide_eq_true_eq, ← e1, ← e2, List.length_map, ← List.map_take, ← List.map_dropLast]
          exact ⟨fun e => by rw [e], map_tl_inj⟩
        rw [ee]
        exact hh
    · have hc : [47].isSuffixOf (tl y) = false := by
        cases hs : [47].isSuffixOf (tl y) with
        | false => rfl
        | true =>
          obtain ⟨r2, e⟩ := List.isSuffixOf_iff_suffix.mp hs
          rw [er] at e
          have := (List.append_inj' e rfl).2
          simp only [List.cons.injEq, and_true] at this
          rw [← this] at h2
          exact absurd h2 (by decide)
      have key := due_b hne hc
      rw [key] at hQ
      refine ⟨_, rfl, p1, _, rfl, .inl (SqL.of m1), _, rfl, p2, _, rfl, .inl (SqL.of m2), _, _, rfl, rfl, _, rfl, ?_⟩
      rw [List.length_map, List.length_map, lP, lF]
      have ec : decide (((sp1 47 (tl y)).length : Int) < ((sp1 47 (tl x)).length : Int)) = decide ((sp1 47 (tl y)).length < (sp1 47 (tl x)).length) := by
        rw [Bool.eq_iff_iff]; simp
      rw [ec]
      cases hk : decide ((sp1 47 (tl y)).length < (sp1 47 (tl x)).length) with
      | false =>
        rw [hk, Bool.false_and] at hQ
        exact iteF (hQ _ s12)
      | true =>
        rw [hk, Bool.true_and] at hQ
        refine iteT ?_
        have hc1 : cutV (P.map V.str) none (some ((F.map V.str).length : Int)) = (P.take F.length).map V.str := by
          rw [cutV_to _ (by omega), List.length_map, List.map_take]
          congr 1
        refine ⟨_, rfl, _, rfl, p2, _, rfl, .inl (SqL.of m2), _, rfl, p1, _, rfl, SqL.of m1, fun q1 hq1 => ?_⟩
        rw [hc1]
        have s3 : Same H2 (upd H2 q1 (.lst ((P.take F.length).map V.str))) := Same.new hq1
        refine ⟨_, rfl, _, _, dp_strs (SqL.of upd_same), dp_strs (SqL.of (s3 _ _ m2)), shaped_strs fun z hz => o1 z (List.mem_of_mem_take hz), shaped_strs o2, ?_⟩
        rw [show PyData.eqv (.list ((P.take F.length).map PyData.str)) (.list (F.map PyData.str)) = decide (P.take F.length = F) by rw [PyData.eqv, eqvAll_strs]]
        have hh := hQ _ (s12.trans s3)
        have ee : decide (P.take F.length = F) = decide (List.take ((sp1 47 (tl y)).length) (sp1 47 (tl x)) = sp1 47 (tl y)) := by
          rw [Bool.eq_iff_iff, decide_eq_true_eq, decide_eq_true_eq, ← e1, ← e2, List.length_map, ← List.map_take]
          exact ⟨fun e => by rw [e], map_tl_inj⟩
        rw [ee]
        exact hh
theorem ok_law {f : Addr} {fd : FuncData} (F : Fun K "law" "law" s_law f fd) (T : Txt K mg) : FnOk P w K mg base CX0 5 f fd ["script"] (sp_law K) := by
  refine F.ok sc_law (fun vs H Q E h => ?_) (fun cdv A outer s H vs Q E hr h => ?_)
  · first | (obtain ⟨_, rfl, _⟩ := h; rfl) | (obtain ⟨_, _, rfl, _⟩ := h; rfl) | (obtain ⟨_, _, _, rfl, _⟩ := h; rfl) | (obtain ⟨_, _, _, _, rfl, _⟩ := h; rfl) | (obtain ⟨_, _, _, _, _, rfl, _⟩ := h; rfl)
  · refine ⟨_, (pss_cons (ps_for PassesOwn.never rfl (pi_enum (by rfl) T.b_enumerate (pa_cons (pe_op op_cat (pe_slice sl_list (pv 0) po_none (po_some pe_int)) (pe_lst (pa_cons (pe_callB (cr_sum rfl) (by rfl) T.b_sum (by decide +kernel) (pa_cons (pv 0) pa_nil)) pa_nil))) pa_nil)) (pg_tup rfl (pgs_cons (pg_name (i := 1) sc_law.nd rfl (by first | exact Or.inl rfl | exact Or.inr rfl)) (pgs_cons (pg_name (i := 2) sc_law.nd rfl (by first | exact Or.inl rfl | exact Or.inr rfl)) pgs_nil)))
      (pss_cons (ps_set (i := 3) sc_law.nd rfl (by first | exact Or.inl rfl | exact Or.inr rfl) (pe_c (ok__law_draw T) hr (by decide) (by rfl) pass0 (pa_cons (pv 2) (pa_cons (pv 1) pa_nil))))
      (pss_one (ps_for PassesOwn.never rfl (pi_range1 (by rfl) T.b_range (pa_cons pe_int pa_nil)) (pg_name (i := 4) sc_law.nd rfl (by first | exact Or.inl rfl | exact Or.inr rfl))
      (pss_cons (ps_asg (pe_c (ok__law_pair T) hr (by decide) (by rfl) pass0 (pa_cons (pv 3) pa_nil)) (pg_tup rfl (pgs_cons (pg_name (i := 5) sc_law.nd rfl (by first | exact Or.inl rfl | exact Or.inr rfl)) (pgs_cons (pg_name (i := 6) sc_law.nd rfl (by first | exact Or.inl rfl | exact Or.inr rfl)) pgs_nil))))
      (pss_cons (ps_if (PW.pt (pw_or (pt_cmpR (op_ne) (pe_c (ok_path_fits T) hr (by decide) (by rfl) pass0 (pa_cons (pv 5) (pa_cons (pv 6) pa_nil))) (pe_c (ok__law_due T) hr (by decide) (by rfl) pass0 (pa_cons (pv 5) (pa_cons (pv 6) pa_nil))) (nomark _)) (pw_or1 (pt_cmpR (op_ne) (pe_c (ok_path_fits T) hr (by decide) (by rfl) pass0 (pa_cons (pv 6) (pa_cons (pv 5) pa_nil))) (pe_c (ok__law_due T) hr (by decide) (by rfl) pass0 (pa_cons (pv 6) (pa_cons (pv 5) pa_nil))) (nomark _)))))
      (pss_one (ps_ret pe_bl))
      pss_nil)
      (pss_one (ps_for PassesOwn.never rfl (pi_list (pe_lst (pa_cons (pv 5) (pa_cons (pv 6) pa_nil)))) (pg_name (i := 7) sc_law.nd rfl (by first | exact Or.inl rfl | exact Or.inr rfl))
      (pss_cons (ps_set (i := 8) sc_law.nd rfl (by first | exact Or.inl rfl | exact Or.inr rfl) (pe_split (pv 7) pe_str))
      (pss_one (ps_if (pt_cmpR (op_ne) (pe_c (ok_default_path T) hr (by decide) (by rfl) pass0 (pa_cons (pv 7) pa_nil)) (pe_ifExp (pt_cmpR (op_neD hr.units) (pe_slice sl_list (pv 8) po_none (po_some (pe_un un_neg pe_int))) (pe_lst (pa_cons pe_str pa_nil)) (nomark _)) (pe_join pe_str (pe_slice sl_list (pv 8) po_none (po_some (pe_un un_neg pe_int)))) pe_str) (nomark _))
      (pss_one (ps_ret pe_bl))
      pss_nil)))))))))))
      (pss_one (ps_ret pe_bl))), ?_⟩
    obtain ⟨a0, ns, rfl, hS, hlen, hQ⟩ := h
    refine ⟨_, rfl, 6, rfl, a0, _, rfl, hS, fun p hp => ?_⟩
    have s1 : Same H (upd H p (.lst (cutV (ns.map V.int) none (some 6)))) := Same.new hp
    refine ⟨_, rfl, a0, ns, rfl, s1.seq hS, by show 1 ≤ sizeLine; decide, fun p2 hp2 => ?_⟩
    have s2 := Same.new (o := HO.lst [V.int ns.sum]) hp2
    have hc6 : cutV (ns.map V.int) none (some 6) = (ns.take 6).map V.int := by
      rw [cutV_to _ (by decide), List.map_take]; rfl
    rw [hc6] at s1 s2 ⊢
    have l6 : (ns.take 6).length ≤ 6 := by rw [List.length_take]; omega
    refine ⟨_, _, _, _, rfl, rfl, s2 _ _ upd_same, upd_same, Nat.le_trans (by rw [List.length_map]; show _ + 1 ≤ 7; omega) (by decide : 7 ≤ sizeLine), fun p3 hp3 => ?_⟩
    have s3 := Same.new (o := HO.lst ((ns.take 6).map V.int ++ [V.int ns.sum])) hp3
    have hm : upd (upd (upd H p (.lst ((ns.take 6).map V.int))) p2 (.lst [V.int ns.sum])) p3 (.lst ((ns.take 6).map V.int ++ [V.int ns.sum])) p3 = some (.lst ((ns.take 6).map V.int ++ [V.int ns.sum])) := upd_same
    generalize (upd (upd (upd H p (.lst ((ns.take 6).map V.int))) p2 (.lst [V.int ns.sum])) p3 (.lst ((ns.take 6).map V.int ++ [V.int ns.sum]))) = Hb at hm ⊢
    have hxs : ∀ i x, ((ns.take 6).map V.int ++ [V.int ns.sum])[i]? = some x → i ≤ 6 ∧ ∃ z : Int, x = .int z := fun i x hi => by
      have h1 := (List.getElem?_eq_some_iff.mp hi).1
      have h2 := List.mem_of_getElem? hi
      rw [List.length_append, List.length_map, List.length_singleton] at h1
      refine ⟨by omega, ?_⟩
      rw [List.mem_append, List.mem_map, List.mem_singleton] at h2
      rcases h2 with ⟨z, _, rfl⟩ | rfl <;> exact ⟨_, rfl⟩
    generalize ((ns.take 6).map V.int ++ [V.int ns.sum]) = xs at hm hxs
    refine ⟨p3, xs, rfl, SqL.of hm, for_enum (K := K) (a := p3) (xs := xs) (fun i σ H' => ∃ v1 v2 v3 v4 v5 v6 v7 v8 : Option V, σ = [some (.ref a0), v1, v2, v3, v4, v5, v6, v7, v8] ∧ Same Hb H')
      ⟨none, none, none, none, none, none, none, none, rfl, Same.refl _⟩ (fun i σ H' _ ⟨_, _, _, _, _, _, _, _, _, q⟩ => SqL.of (q _ _ hm)) ?_ ?_⟩
    · rintro i x T σ H1 hi ⟨v1, v2, v3, v4, v5, v6, v7, v8, rfl, sb⟩ hT
      obtain ⟨hi6, z, rfl⟩ := hxs i x hi
      refine ⟨T, _, rfl, SqT.of upd_same, rfl, _, _, rfl, _, _, rfl, rfl, ?_⟩
      have sT := sb.trans (Same.new (o := HO.tup [V.int (i : Nat), V.int z]) hT)
      refine ⟨_, rfl, _, rfl, z, i, rfl, by omega, by omega, fun d H2 sd hd D => ?_⟩
      have hbd : Hb d = none := sT.free hd
      have sb2 : Same Hb H2 := sT.trans sd
      refine ⟨9, rfl, by decide, by decide, for_range (n := 9) (fun j σ H3 => ∃ v4 v5 v6 v7 v8 : Option V, σ = [some (.ref a0), some (.int (i : Nat)), some (.int z), some (.ref d), v4, v5, v6, v7, v8] ∧ Same Hb H3 ∧ DrawAt H3 d (100000000 - 100 * j)) ⟨v4, v5, v6, v7, v8, rfl, sb2, D.less (by decide)⟩ ?_ ?_⟩
      · rintro j σ H3 hj ⟨v4, v5, v6, v7, v8, rfl, sb3, D3⟩
        refine ⟨_, rfl, d, 100000000 - 100 * j - 60, rfl, D3.less (by omega), fun pr x y H4 px py k4 hpr D4 => ?_⟩
        have sb4 : Same Hb H4 := fun b o e => k4 b o (sb3 b o e) (ne_of_none e hbd)
        refine ⟨pr, _, rfl, SqT.of hpr, rfl, _, _, rfl, _, _, rfl, rfl, ?_⟩
        have pxp := px.path (by decide)
        have pyp := py.path (by decide)
        have pxo := PathQ_okS px (by decide)
        have pyo := PathQ_okS py (by decide)
        have nx : tl x ≠ [] := by obtain ⟨r, e⟩ := px.1; rw [e]; simp
        have ny : tl y ≠ [] := by obtain ⟨r, e⟩ := py.1; rw [e]; simp
        refine ⟨_, rfl, _, rfl, x, y, rfl, pxp, pyp, _, rfl, _, rfl, x, y, rfl, pxo, pyo, ny, fun H5 s5 => ?_⟩
        refine ⟨rfl, _, rfl, iteNS rfl ?_⟩
        refine ⟨_, rfl, _, rfl, y, x, rfl, pyp, pxp, _, rfl, _, rfl, y, x, rfl, pyo, pxo, nx, fun H6 s6 => ?_⟩
        refine ⟨rfl, _, rfl, iteNS rfl ?_⟩
        have sb6 := (sb4.trans s5).trans s6
        have D6 := (D4.same s5).same s6
        refine ⟨_, rfl, _, rfl, by show 2 ≤ sizeLine; decide, fun q hq => ⟨q, rfl, ⟨_, SqL.of upd_same⟩, ?_⟩⟩
        have s7 := Same.new (o := HO.lst [V.str x, V.str y]) hq
        refine for_list (K := K) (a := q) (xs := [V.str x, V.str y]) (fun m σ H7 => ∃ v7 v8 : Option V, σ = [some (.ref a0), some (.int (i : Nat)), some (.int z), some (.ref d), some (.int (0 + (j : Nat))), some (.str x), some (.str y), v7, v8] ∧ Same (upd H6 q (.lst [V.str x, V.str y])) H7)
          ⟨v7, v8, rfl, Same.refl _⟩ (fun m σ H7 _ ⟨_, _, _, s⟩ => SqL.of (s _ _ upd_same)) ?_ ?_
        · rintro m u σ H7 hm ⟨v7, v8, rfl, s8⟩
          obtain ⟨t, rfl, pt⟩ : ∃ t : Str, u = .str t ∧ PathQ 60 t := by
            have := List.mem_of_getElem? hm
            simp only [List.mem_cons, List.not_mem_nil, or_false] at this
            rcases this with rfl | rfl
            · exact ⟨x, rfl, px⟩
            · exact ⟨y, rfl, py⟩
          have ptp := pt.path (by decide)
          have pto := PathQ_okS pt (by decide)
          have ptl := pt.2.2
          refine ⟨_, rfl, ⟨_, rfl⟩, _, _, rfl, rfl, by decide +kernel, Nat.le_trans (by omega : _ ≤ 10000) (by decide), fun p1 hp1 => ?_⟩
          have e1 := split_sp1 t (c := 47) (by decide)
          have o1 := split_strOk (x := t) (c := 47) (by decide) pto.2
          have len1 := split_length t (c := 47) (by decide)
          have ml : ∀ p ∈ Txt.split t ⟨#[47]⟩, p.length ≤ t.length := fun p hp => split_mem_len (c := 47) (by decide) hp
          rw [← slash_eq] at e1 o1 len1 ml
          generalize Txt.split t ("/" : Str) = P at *
          have s9 := Same.new (o := HO.lst (P.map V.str)) hp1
          have m1 : (upd H7 p1 (.lst (P.map V.str))) p1 = some (.lst (P.map V.str)) := upd_same
          generalize hH8 : upd H7 p1 (.lst (P.map V.str)) = H8 at s9 m1 ⊢
          refine ⟨_, rfl, t, rfl, ptp, fun w H9 s10 ew => ?_⟩
          have hcd : cutV (P.map V.str) none (some (-1)) = P.dropLast.map V.str := by rw [cutV_m1, List.map_dropLast]
          refine ⟨_, rfl, _, rfl, _, rfl, p1, _, rfl, SqL.of (s10 _ _ m1), fun q1 hq1 => ?_⟩
          rw [hcd]
          refine ⟨by show 1 ≤ sizeLine; decide, fun q2 hq2 => ?_⟩
          have s11 := Same.new (o := HO.lst (P.dropLast.map V.str)) hq1
          have s12 := Same.new (o := HO.lst ([("" : Str)].map V.str)) hq2
          have s8a := (s8.trans s9).trans s10
          refine ⟨_, _, dp_strs (SqL.of (s12 _ _ upd_same)), dp_strs (ys := [("" : Str)]) (SqL.of upd_same), shaped_strs fun z hz => o1 z (List.dropLast_sublist P |>.subset hz), shaped_strs (fun z hz => by rw [List.mem_singleton.mp hz]; decide +kernel), _, rfl, ?_⟩
          rw [show PyData.eqv (.list (P.dropLast.map PyData.str)) (.list ([("" : Str)].map PyData.str)) = decide (P.dropLast = [("" : Str)]) by rw [PyData.eqv, eqvAll_strs]]
          have hP2 : P.dropLast ≠ [] := by
            intro e
            have : (P.map tl).dropLast = [] := by rw [← List.map_dropLast, e]; rfl
            obtain ⟨r, hr⟩ := pt.1
            rw [e1, hr, sp1_hit] at this
            obtain ⟨a, b, e2⟩ := sp1_cons 47 r
            rw [e2] at this
            simp at this
          by_cases hd0 : P.dropLast = [("" : Str)]
          · rw [decide_eq_true hd0]
            refine iteF ⟨rfl, _, rfl, ?_⟩
            have ee : w = ("/" : Str) := ext_tl (by rw [ew, dflt_due0 e1 hd0, tl_slash])
            refine iteNS (by rw [ee]) ?_
            exact ⟨_, _, rfl, (s8a.trans s11).trans s12⟩
          · rw [decide_eq_false hd0]
            refine iteT ?_
            have s13 := s11.trans s12
            refine ⟨⟨_, rfl⟩, _, rfl, _, rfl, _, rfl, p1, _, rfl, SqL.of (s13 _ _ (s10 _ _ m1)), fun q3 hq3 => ?_⟩
            rw [hcd]
            have s14 := Same.new (o := HO.lst (P.dropLast.map V.str)) hq3
            refine ⟨_, q3, P.dropLast, rfl, rfl, .inl (SqL.of upd_same), ?_, rfl, _, rfl, ?_⟩
            · have h1 := PySem.StrLaws.sumLen_le (B := 100) P.dropLast fun z hz => Nat.le_trans (ml z (List.dropLast_sublist P |>.subset hz)) (by omega)
              have h2 : P.dropLast.length ≤ P.length := by rw [List.length_dropLast]; omega
              have h3 : ("/" : Str).length = 1 := by decide +kernel
              rw [h3]; omega
            · have ee : w = Txt.join ("/" : Str) P.dropLast := ext_tl (by rw [ew, dflt_due e1 hd0 hP2, join_tl, tl_slash])
              refine iteNS (by rw [ee]) ?_
              exact ⟨_, _, rfl, (s8a.trans s13).trans s14⟩
        · rintro σ H7 ⟨v7, v8, rfl, s8⟩
          exact ⟨_, _, _, _, _, rfl, (sb6.trans s7).trans s8, ((D6.same s7).same s8).less (by omega)⟩
      · rintro σ H3 ⟨v4, v5, v6, v7, v8, rfl, sb3, D3⟩
        exact ⟨_, _, _, _, _, _, _, _, rfl, sb3⟩
    · rintro σ H1 ⟨v1, v2, v3, v4, v5, v6, v7, v8, rfl, sb⟩
      exact hQ _
end
theorem bd__is_path_sign : ∀ (kV doc pm : Value) (an : Option Addr) (cdv ct : Value) (us : List Value), us.length = (["sign"] : List Str).length → bindArgs (PySem.W.fnOf "_is_path_sign" "_is_path_sign" (defArgs s__is_path_sign) (defBody s__is_path_sign) (defScope s__is_path_sign) .none kV doc pm an cdv ct) ⟨us, []⟩ = pure ((["sign"] : List Str).zip us) :=
  fun _ _ _ _ _ _ us hl => match us, hl with | [_], _ => rfl
theorem bd_is_path : ∀ (kV doc pm : Value) (an : Option Addr) (cdv ct : Value) (us : List Value), us.length = (["value"] : List Str).length → bindArgs (PySem.W.fnOf "is_path" "is_path" (defArgs s_is_path) (defBody s_is_path) (defScope s_is_path) .none kV doc pm an cdv ct) ⟨us, []⟩ = pure ((["value"] : List Str).zip us) :=
  fun _ _ _ _ _ _ us hl => match us, hl with | [_], _ => rfl
theorem bd__need_path : ∀ (kV doc pm : Value) (an : Option Addr) (cdv ct : Value) (us : List Value), us.length = (["path"] : List Str).length → bindArgs (PySem.W.fnOf "_need_path" "_need_path" (defArgs s__need_path) (defBody s__need_path) (defScope s__need_path) .none kV doc pm an cdv ct) ⟨us, []⟩ = pure ((["path"] : List Str).zip us) :=
  fun _ _ _ _ _ _ us hl => match us, hl with | [_], _ => rfl
theorem bd_default_path : ∀ (kV doc pm : Value) (an : Option Addr) (cdv ct : Value) (us : List Value), us.length = (["path"] : List Str).length → bindArgs (PySem.W.fnOf "default_path" "default_path" (defArgs s_default_path) (defBody s_default_path) (defScope s_default_path) .none kV doc pm an cdv ct) ⟨us, []⟩ = pure ((["path"] : List Str).zip us) :=
  fun _ _ _ _ _ _ us hl => match us, hl with | [_], _ => rfl
theorem bd_path_fits : ∀ (kV doc pm : Value) (an : Option Addr) (cdv ct : Value) (us : List Value), us.length = (["path", "own"] : List Str).length → bindArgs (PySem.W.fnOf "path_fits" "path_fits" (defArgs s_path_fits) (defBody s_path_fits) (defScope s_path_fits) .none kV doc pm an cdv ct) ⟨us, []⟩ = pure ((["path", "own"] : List Str).zip us) :=
  fun _ _ _ _ _ _ us hl => match us, hl with | [_, _], _ => rfl
theorem bd__law_draw : ∀ (kV doc pm : Value) (an : Option Addr) (cdv ct : Value) (us : List Value), us.length = (["cell", "k"] : List Str).length → bindArgs (PySem.W.fnOf "_law_draw" "_law_draw" (defArgs s__law_draw) (defBody s__law_draw) (defScope s__law_draw) .none kV doc pm an cdv ct) ⟨us, []⟩ = pure ((["cell", "k"] : List Str).zip us) :=
  fun _ _ _ _ _ _ us hl => match us, hl with | [_, _], _ => rfl
theorem bd__law_mixed : ∀ (kV doc pm : Value) (an : Option Addr) (cdv ct : Value) (us : List Value), us.length = (["cell", "k"] : List Str).length → bindArgs (PySem.W.fnOf "_law_mixed" "_law_mixed" (defArgs s__law_mixed) (defBody s__law_mixed) (defScope s__law_mixed) .none kV doc pm an cdv ct) ⟨us, []⟩ = pure ((["cell", "k"] : List Str).zip us) :=
  fun _ _ _ _ _ _ us hl => match us, hl with | [_, _], _ => rfl
theorem bd__law_digit : ∀ (kV doc pm : Value) (an : Option Addr) (cdv ct : Value) (us : List Value), us.length = (["draw", "span"] : List Str).length → bindArgs (PySem.W.fnOf "_law_digit" "_law_digit" (defArgs s__law_digit) (defBody s__law_digit) (defScope s__law_digit) .none kV doc pm an cdv ct) ⟨us, []⟩ = pure ((["draw", "span"] : List Str).zip us) :=
  fun _ _ _ _ _ _ us hl => match us, hl with | [_, _], _ => rfl
theorem bd__law_path : ∀ (kV doc pm : Value) (an : Option Addr) (cdv ct : Value) (us : List Value), us.length = (["draw"] : List Str).length → bindArgs (PySem.W.fnOf "_law_path" "_law_path" (defArgs s__law_path) (defBody s__law_path) (defScope s__law_path) .none kV doc pm an cdv ct) ⟨us, []⟩ = pure ((["draw"] : List Str).zip us) :=
  fun _ _ _ _ _ _ us hl => match us, hl with | [_], _ => rfl
theorem bd__law_pair : ∀ (kV doc pm : Value) (an : Option Addr) (cdv ct : Value) (us : List Value), us.length = (["draw"] : List Str).length → bindArgs (PySem.W.fnOf "_law_pair" "_law_pair" (defArgs s__law_pair) (defBody s__law_pair) (defScope s__law_pair) .none kV doc pm an cdv ct) ⟨us, []⟩ = pure ((["draw"] : List Str).zip us) :=
  fun _ _ _ _ _ _ us hl => match us, hl with | [_], _ => rfl
theorem bd__law_due : ∀ (kV doc pm : Value) (an : Option Addr) (cdv ct : Value) (us : List Value), us.length = (["path", "own"] : List Str).length → bindArgs (PySem.W.fnOf "_law_due" "_law_due" (defArgs s__law_due) (defBody s__law_due) (defScope s__law_due) .none kV doc pm an cdv ct) ⟨us, []⟩ = pure ((["path", "own"] : List Str).zip us) :=
  fun _ _ _ _ _ _ us hl => match us, hl with | [_, _], _ => rfl
theorem bd_law : ∀ (kV doc pm : Value) (an : Option Addr) (cdv ct : Value) (us : List Value), us.length = (["script"] : List Str).length → bindArgs (PySem.W.fnOf "law" "law" (defArgs s_law) (defBody s_law) (defScope s_law) .none kV doc pm an cdv ct) ⟨us, []⟩ = pure ((["script"] : List Str).zip us) :=
  fun _ _ _ _ _ _ us hl => match us, hl with | [_], _ => rfl
theorem fin_mk {l : PySem.W.OpenLaw} {w : World} {K : PySem.W.Frag} {mg : Str → Option Value} {fa : Addr} (hfa : mg "law" = some (.ref fa)) (D : Df K mg "law" s_law ["script"]) (T : Txt K mg) :
    ∃ fd : FuncData, (∀ (s : Shared) (v : Value), BindsTo s fd ⟨[v], []⟩ [("script", v)]) ∧ ∀ base : Heap, K.In base → base.Ns PySem.mainGlobals mg → FnOk l.prog w K mg base CX0 5 fa fd ["script"] (sp_law K) := by
  obtain ⟨f, fd, F, m, b⟩ := D
  cases hfa.symm.trans m
  exact ⟨fd, fun s v => .of_eq (b [v] rfl), fun base _ _ => ok_law F T⟩
theorem walk {l : PySem.W.OpenLaw} {q : Program} {loose : List Str} {XP : (Str → Option Value) → Heap → Prop} {YP : World → Heap → Prop} {d : DefRec} {K : Params → PySem.W.Frag} (hn : l.most = some 63) (hdf : d.params.defaults = [])
    (hY : ∀ (w : World) (h : Heap), YP w h → (K w.params).In h)
    (F : ∀ (w : World) (mg : Str → Option Value) (fa : Addr) (h : Heap), (K w.params).In h → h.Ns PySem.mainGlobals mg → mg d.name = some (.ref fa) →
      ∃ fd : FuncData, (∀ (s : Shared) (u : Value), BindsTo s fd ⟨[u], []⟩ [("script", u)]) ∧ ∀ base : Heap, (K w.params).In base → base.Ns PySem.mainGlobals mg → FnOk l.prog w (K w.params) mg base CX0 5 fa fd ["script"] (sp_law (K w.params))) :
    PySem.W.WalkO q loose XP YP l.row.toRowW d [] (fun f vs => PySem.call f vs) :=
  L2.walk_of (n := 63) (k := 5) (x := "script") (CX := fun _ => CX0) (sp := fun w => sp_law (K w.params)) hn (by decide) hdf ⟨rfl, by decide, by decide⟩ hY F (fun _ _ a ns hl _ hS => ⟨a, ns, rfl, hS, hl, fun _ => rfl⟩) fun _ _ _ _ _ z => z
end Pf
open PySem PySem.W PyProof.Rows
set_option maxRecDepth 100000 in
set_option maxHeartbeats 0 in
theorem PySem.Challenge.cw_crumbjar_k11_paths_that_fit_holds : PySem.Challenge.rw_crumbjar_k11_paths_that_fit.Holds := by
  w_on; o_law; k_head; (case hw => w_witness2)
  k_fill
  refine Pf.walk (l := PySem.Challenge.rw_crumbjar_k11_paths_that_fit) rfl rfl (fun w h Y => PySem.W.kIn_of Y) ?F
  case F =>
    intro w mg fa h KX G hmg
    refine' Pf.fin_mk hmg (Kb.Df.mk KX G Pf.bd_law ?a11 ?l11 ?c11 ?k11) ⟨(PySem.W.mg_none_of KX G ?z0),
      (PySem.W.mg_none_of KX G ?z1),
      (PySem.W.mg_none_of KX G ?z2),
      (PySem.W.mg_none_of KX G ?z3),
      (PySem.W.mg_none_of KX G ?z4),
      (PySem.W.mg_none_of KX G ?z5),
      (PySem.W.mg_none_of KX G ?z6),
      (PySem.W.mg_none_of KX G ?z7),
      ⟨_, PySem.W.mg_of KX G ?x0, ?r0⟩,
      ⟨_, PySem.W.mg_of KX G ?x1, ?r1⟩,
      ⟨_, PySem.W.mg_of KX G ?x2, ?r2⟩,
      (Kb.Df.mk KX G Pf.bd__is_path_sign ?a0 ?l0 ?c0 ?k0),
      (Kb.Df.mk KX G Pf.bd_is_path ?a1 ?l1 ?c1 ?k1),
      (Kb.Df.mk KX G Pf.bd__need_path ?a2 ?l2 ?c2 ?k2),
      (Kb.Df.mk KX G Pf.bd_default_path ?a3 ?l3 ?c3 ?k3),
      (Kb.Df.mk KX G Pf.bd_path_fits ?a4 ?l4 ?c4 ?k4),
      (Kb.Df.mk KX G Pf.bd__law_draw ?a5 ?l5 ?c5 ?k5),
      (Kb.Df.mk KX G Pf.bd__law_mixed ?a6 ?l6 ?c6 ?k6),
      (Kb.Df.mk KX G Pf.bd__law_digit ?a7 ?l7 ?c7 ?k7),
      (Kb.Df.mk KX G Pf.bd__law_path ?a8 ?l8 ?c8 ?k8),
      (Kb.Df.mk KX G Pf.bd__law_pair ?a9 ?l9 ?c9 ?k9),
      (Kb.Df.mk KX G Pf.bd__law_due ?a10 ?l10 ?c10 ?k10)⟩
    (case z0 => k_is)
    (case z1 => k_is)
    (case z2 => k_is)
    (case z3 => k_is)
    (case z4 => k_is)
    (case z5 => k_is)
    (case z6 => k_is)
    (case z7 => k_is)
    (case x0 => k_is)
    (case r0 => first | exact ⟨_, rfl⟩ | rfl)
    (case x1 => k_is)
    (case r1 => first | exact ⟨_, rfl⟩ | rfl)
    (case x2 => k_is)
    (case r2 => first | exact ⟨_, rfl⟩ | rfl)
    (case a0 => k_is)
    (case l0 => k_is)
    (case c0 => k_is)
    (case k0 => k_is)
    (case a1 => k_is)
    (case l1 => k_is)
    (case c1 => k_is)
    (case k1 => k_is)
    (case a2 => k_is)
    (case l2 => k_is)
    (case c2 => k_is)
    (case k2 => k_is)
    (case a3 => k_is)
    (case l3 => k_is)
    (case c3 => k_is)
    (case k3 => k_is)
    (case a4 => k_is)
    (case l4 => k_is)
    (case c4 => k_is)
    (case k4 => k_is)
    (case a5 => k_is)
    (case l5 => k_is)
    (case c5 => k_is)
    (case k5 => k_is)
    (case a6 => k_is)
    (case l6 => k_is)
    (case c6 => k_is)
    (case k6 => k_is)
    (case a7 => k_is)
    (case l7 => k_is)
    (case c7 => k_is)
    (case k7 => k_is)
    (case a8 => k_is)
    (case l8 => k_is)
    (case c8 => k_is)
    (case k8 => k_is)
    (case a9 => k_is)
    (case l9 => k_is)
    (case c9 => k_is)
    (case k9 => k_is)
    (case a10 => k_is)
    (case l10 => k_is)
    (case c10 => k_is)
    (case k10 => k_is)
    (case a11 => k_is)
    (case l11 => k_is)
    (case c11 => k_is)
    (case k11 => k_is)
#print axioms PySem.Challenge.cw_crumbjar_k11_paths_that_fit_holds

import PyProof.Rows.All
import Wide.All
import OpenK.AllK
import Wide.FinOn
import HandS.Base
import HandS.Call
import HandS.List
import HandS.Comp
import HandS.Ends
import HandS.Dict
import HandS.Iter
import HandS.Text
import HandS.Words
import PyProof.Rows.StrNews2
import PyProof.StrLawsLast
import HandS.Wide
import HandS.Walk
import HandS.IsInst
import HandS.Style
import KE.IntTextLaws
import HandS.StrMore
import HandS.TupMul
import HandS.TupAny
import PyProof.Rows.StrFirst
import PyProof.Rows.RegReprOcc
import HandS.Exc
import HandS.ExcOwn
import HandS.ExcInit
import HandS.ExcField
import HandS.WordsExc
import PyProof.ReprReads
import PyProof.ReprRoads
import KE.KxStill
import PyProof.Rows.StrCase
import PyProof.StrLawsRepr
import PyProof.Rows.StrJoinMade
import HandS.Codes
import HandS.Flow
import HandS.Evl
import PySem.Challenge.RW_crumbjar_k03_whole_host_texts
set_option Elab.async false
set_option linter.all false
set_option maxRecDepth 100000
set_option maxHeartbeats 4000000
namespace Kb
open PySem PySem.Spec PyProof.Rows L2
/-! ### a def of the text, a def that may be called -/
def Df (K : PySem.W.Frag) (mg : Str → Option Value) (x : Str) (st : Stmt) (ps : List Str) : Prop :=
  ∃ (f : Addr) (fd : FuncData), Fun K x x st f fd ∧ mg x = some (.ref f) ∧ ∀ us : List Value, us.length = ps.length → bindArgs fd ⟨us, []⟩ = pure (ps.zip us)
theorem Df.mk {K : PySem.W.Frag} {mg : Str → Option Value} {h : Heap} {x : Str} {st : Stmt} {ps : List Str} {f : Addr} {oc : Value} {od an : Option Addr} {sl : Array (Option Value)} {kV doc pm cd ct : Value} (X : K.In h) (G : h.Ns PySem.mainGlobals mg)
    (b : ∀ (kV doc pm : Value) (an : Option Addr) (cdv ct : Value) (us : List Value), us.length = ps.length → bindArgs (PySem.W.fnOf x x (defArgs st) (defBody st) (defScope st) .none kV doc pm an cdv ct) ⟨us, []⟩ = pure (ps.zip us))
    (a : PySem.W.nsIn K PySem.mainGlobals x = some (some (.ref f)))
    (l : K.lookup f = some ⟨oc, od, .func (PySem.W.fnOf x x (defArgs st) (defBody st) (defScope st) .none kV doc pm an cd ct), sl⟩)
    (c : PySem.W.codeIn K cd x = true) (k : PySem.W.keepIn K (.ref f) = true) : Df K mg x st ps :=
  ⟨f, _, fun_mk l c k, PySem.W.mg_of X G a, b kV doc pm an cd ct⟩
def Cal (P : Program) (w : World) (K : PySem.W.Frag) (mg : Str → Option Value) (base : Heap) (CX : CXT) (k : Nat) (x : Str) (ps : List Str) (sp : Sp) : Prop :=
  ∃ (f : Addr) (fd : FuncData), FnOk P w K mg base CX k f fd ps sp ∧ mg x = some (.ref f) ∧ PySem.W.keepIn K (.ref f) = true ∧ Binds K fd ps []
section
variable {P : Program} {w : World} {K : PySem.W.Frag} {mg : Str → Option Value} {base : Heap}
theorem Df.ok0 {x : Str} {st : Stmt} {N ps : List Str} {k : Nat} {sp : Sp} (D : Df K mg x st ps) (S : FnScope N ps (defScope st)) (len : ∀ vs H Q E, sp vs H Q E → vs.length = ps.length)
    (hbody : ∀ (f : Addr) (cdv : Value) (A : Around) (outer : List Env) (s : Shared) (H : Hp) (vs : List V) (Q : VK) (E : XK), Room k (A.deeper (envOfC x (defScope st) s.heap.objs.size f cdv)) → sp vs H Q E →
      ∃ t, PSs (cxOf CX0 P w K mg base N x (defScope st) f cdv A outer s H E).nox (defBody st) t ∧ t { nx := fun _ H' => Q .non H', rt := Q } (start N vs) H) : Cal P w K mg base CX0 (k + 1) x ps sp := by
  obtain ⟨f, fd, F, m, b⟩ := D
  exact ⟨f, fd, F.ok S len (hbody f), m, F.kp, .all b⟩
end
theorem pe_c {X : Cx} {CX : CXT} {j k : Nat} {x : Str} {ps : List Str} {sp : Sp} {E : XK} {p pos : Pos} {e : Expr} {es : List Expr} {t : TA} (c : Cal X.prog X.w X.K X.mg X.base CX j x ps sp) (hr : Room k X.A) (hjk : j ≤ k) (hg : Gl X x) (hx : Passes CX X E)
    (ha : PA X (e :: es) t) (hdb : (x == ("__debug__" : Str)) = false := by decide) (he : starEach (e :: es) X.env = (false, eval e X.env) :: starEach es X.env := by rfl) (hpl : (backTo pos (starEach es X.env)).any (·.1) = false := by rfl) :
    PE X (.Call (.Name x p) (e :: es) [] pos) (tCall sp [] E t) := by
  obtain ⟨f, fd, F, m, kp, b⟩ := c
  exact pe_call F (hr.mono hjk) hg m kp b .nil hx ha hdb he hpl
end Kb

namespace Kb
open PySem PySem.Spec PyProof.Rows L2 TL PySem.StrLaws Builtin.Str
/-! ### lists of signs: parts between one sign -/
def sp1 (c : Nat) : List Nat → List (List Nat)
  | [] => [[]]
  | x :: l => if x = c then [] :: sp1 c l else match sp1 c l with
    | [] => [[x]]
    | h :: t => (x :: h) :: t
theorem sp1_ne (c : Nat) : ∀ l, sp1 c l ≠ []
  | [] => by simp [sp1]
  | x :: l => by
    unfold sp1
    split
    · simp
    · cases h : sp1 c l <;> simp
theorem sp1_hit (c : Nat) (l : List Nat) : sp1 c (c :: l) = [] :: sp1 c l := by simp [sp1]
theorem sp1_miss {c x : Nat} (h : x ≠ c) {l p : List Nat} {r : List (List Nat)} (e : sp1 c l = p :: r) : sp1 c (x :: l) = (x :: p) :: r := by
  simp only [sp1, if_neg h, e]
theorem sp1_cons (c : Nat) (l : List Nat) : ∃ p r, sp1 c l = p :: r := by
  cases h : sp1 c l with
  | nil => exact absurd h (sp1_ne c l)
  | cons p r => exact ⟨p, r, rfl⟩
theorem spl_sp1 (c : Nat) : ∀ (l acc : List Nat) (p : List Nat) (r : List (List Nat)), sp1 c l = p :: r → spl [c] 0 acc l = (acc ++ p) :: r
  | [], acc, p, r, h => by
    simp only [sp1, List.cons.injEq] at h
    obtain ⟨rfl, rfl⟩ := h
    simp [spl_nil]
  | x :: l, acc, p, r, h => by
    obtain ⟨q, s, e⟩ := sp1_cons c l
    by_cases hx : x = c
    · subst hx
      rw [sp1_hit] at h
      simp only [List.cons.injEq] at h
      obtain ⟨rfl, rfl⟩ := h
      rw [spl_hit (by simp [pre])]
      rw [show [x].length - 1 = 0 from rfl, spl_sp1 x l [] q s e, e]
      simp
    · rw [sp1_miss hx e] at h
      simp only [List.cons.injEq] at h
      obtain ⟨rfl, rfl⟩ := h
      rw [spl_miss (by simp [pre, hx]), spl_sp1 c l _ q s e]
      simp
theorem split_sp1 (x : Str) {c : Nat} (hc : c < 256) : (Txt.split x ⟨#[c]⟩).map tl = sp1 c (tl x) := by
  rw [split_spl x ⟨#[c]⟩ (by simp [tl]) (kind_ok (by simp [hc]))]
  obtain ⟨p, r, e⟩ := sp1_cons c (tl x)
  show spl [c] 0 [] (tl x) = _
  rw [spl_sp1 c _ [] p r e, e]
  rfl
theorem joinL_sp1 (c : Nat) : ∀ l, joinL [c] (sp1 c l) = l
  | [] => rfl
  | x :: l => by
    obtain ⟨q, s, e⟩ := sp1_cons c l
    have ih := joinL_sp1 c l
    by_cases hx : x = c
    · subst hx
      rw [sp1_hit, e]
      rw [e] at ih
      show [] ++ ([x] ++ joinL [x] (q :: s)) = _
      rw [ih]; rfl
    · rw [sp1_miss hx e]
      rw [e] at ih
      cases s with
      | nil => exact congrArg (x :: ·) ih
      | cons a b => exact congrArg (x :: ·) ih
theorem sp1_free (c : Nat) : ∀ l, ∀ p ∈ sp1 c l, c ∉ p
  | [], p, h => by simp only [sp1, List.mem_singleton] at h; subst h; simp
  | x :: l, p, h => by
    obtain ⟨q, s, e⟩ := sp1_cons c l
    have ih := sp1_free c l
    by_cases hx : x = c
    · subst hx
      rw [sp1_hit] at h
      rcases List.mem_cons.mp h with rfl | h
      · simp
      · exact ih p h
    · rw [sp1_miss hx e] at h
      rw [e] at ih
      rcases List.mem_cons.mp h with rfl | h
      · intro hm
        rcases List.mem_cons.mp hm with r | r
        · exact hx r.symm
        · exact ih q (List.mem_cons_self ..) r
      · exact ih p (List.mem_cons_of_mem _ h)
theorem sp1_of_free {c : Nat} : ∀ {l : List Nat}, c ∉ l → sp1 c l = [l]
  | [], _ => rfl
  | x :: l, h => by
    have hx : x ≠ c := fun e => h (e ▸ List.mem_cons_self ..)
    rw [sp1_miss hx (sp1_of_free fun m => h (List.mem_cons_of_mem _ m))]
theorem sp1_app (c : Nat) : ∀ (a b : List Nat), sp1 c (a ++ c :: b) = sp1 c a ++ sp1 c b
  | [], b => by rw [List.nil_append, sp1_hit]; rfl
  | x :: a, b => by
    obtain ⟨q, s, e⟩ := sp1_cons c a
    have ih := sp1_app c a b
    rw [e] at ih
    by_cases hx : x = c
    · subst hx
      rw [List.cons_append, sp1_hit, sp1_hit, ih, e]; rfl
    · rw [List.cons_append, sp1_miss hx ih, sp1_miss hx e]; rfl
/-- r and the sign stand at the head exactly if r's parts are the first ones, with one more behind -/
theorem sp1_prefix (c : Nat) : ∀ (r p : List Nat), ((sp1 c r).length < (sp1 c p).length ∧ (sp1 c p).take (sp1 c r).length = sp1 c r) ↔ (r ++ [c]) <+: p
  | [], p => by
    show (1 < _ ∧ List.take 1 _ = [[]]) ↔ [c] <+: p
    cases p with
    | nil => simp [sp1]
    | cons x p =>
      obtain ⟨q, s, e⟩ := sp1_cons c p
      by_cases hx : x = c
      · subst hx
        simp [sp1_hit, e]
      · rw [sp1_miss hx e]
        simp [List.cons_prefix_cons, Ne.symm hx]
  | y :: r, p => by
    obtain ⟨q, s, e⟩ := sp1_cons c r
    cases p with
    | nil =>
      have h1 : 0 < (sp1 c (y :: r)).length := List.length_pos_iff.mpr (sp1_ne c _)
      constructor
      · rintro ⟨h, _⟩
        simp only [sp1, List.length_cons, List.length_nil] at h
        exact absurd h (by have : (sp1 c (y :: r)).length = (sp1 c (y :: r)).length := rfl; simp only [sp1] at h1; omega)
      · intro h; simp at h
    | cons x p =>
      obtain ⟨q', s', e'⟩ := sp1_cons c p
      have ih := sp1_prefix c r p
      rw [List.cons_append, List.cons_prefix_cons]
      by_cases hy : y = c
      · subst hy
        rw [sp1_hit]
        by_cases hx : x = y
        · subst hx
          rw [sp1_hit]
          simp only [List.length_cons, List.take_succ_cons, List.cons.injEq, true_and, Nat.add_lt_add_iff_right]
          exact ih
        · rw [sp1_miss hx e']
          simp [Ne.symm hx]
      · rw [sp1_miss hy e]
        by_cases hx : x = c
        · subst hx
          rw [sp1_hit]
          simp [Ne.symm hy, hy]
        · rw [sp1_miss hx e']
          rw [e, e'] at ih
          simp only [List.length_cons, List.take_succ_cons, List.cons.injEq] at ih ⊢
          constructor
          · rintro ⟨h1, ⟨h2, h3⟩, h4⟩
            exact ⟨h2.symm, ih.mp ⟨h1, h3, h4⟩⟩
          · rintro ⟨h2, h⟩
            obtain ⟨h1, h3, h4⟩ := ih.mpr h
            exact ⟨h1, ⟨h2.symm, h3⟩, h4⟩
/-- the last part -/
theorem last_cut {c : Nat} : ∀ {l : List Nat}, c ∈ l → ∃ a b, l = a ++ c :: b ∧ c ∉ b
  | [], h => by cases h
  | x :: l, h => by
    by_cases hm : c ∈ l
    · obtain ⟨a, b, e, hb⟩ := last_cut hm
      exact ⟨x :: a, b, by rw [e]; rfl, hb⟩
    · have hx : c = x := by
        rcases List.mem_cons.mp h with e | e
        · exact e
        · exact absurd e hm
      exact ⟨[], l, by rw [hx]; rfl, hm⟩
/-! ### the model's words as list functions -/
theorem startswith_tl (x y : Str) : Txt.startswith x y = (tl y).isPrefixOf (tl x) := by
  unfold Txt.startswith
  rw [subAt_eq, List.drop_zero, len_tl, len_tl, Nat.zero_add]
  rw [Bool.eq_iff_iff]
  simp only [Bool.and_eq_true, decide_eq_true_eq, beq_iff_eq, List.isPrefixOf_iff_prefix]
  constructor
  · rintro ⟨_, h⟩
    have h : List.take (tl y).length (tl x) = tl y := h
    exact h ▸ List.take_prefix _ _
  · intro h
    exact ⟨h.length_le, (List.prefix_iff_eq_take.mp h).symm⟩
theorem endswith_tl (x y : Str) : Txt.endswith x y = (tl y).isSuffixOf (tl x) := by
  unfold Txt.endswith
  rw [subAt_eq, len_tl, len_tl, Nat.zero_add]
  rw [Bool.eq_iff_iff]
  simp only [Bool.and_eq_true, decide_eq_true_eq, beq_iff_eq, List.isSuffixOf_iff_suffix]
  constructor
  · rintro ⟨h1, h⟩
    have h : List.take (tl y).length (List.drop ((tl x).length - (tl y).length) (tl x)) = tl y := h
    rw [List.take_of_length_le (by rw [List.length_drop]; omega)] at h
    exact h ▸ List.drop_suffix _ _
  · intro h
    have hl := h.length_le
    refine ⟨hl, ?_⟩
    show List.take (tl y).length (List.drop ((tl x).length - (tl y).length) (tl x)) = tl y
    rw [List.take_of_length_le (by rw [List.length_drop]; omega)]
    exact (List.suffix_iff_eq_drop.mp h).symm
theorem rpartition_hit {x : Str} {c : Nat} {a b : List Nat} (e : tl x = a ++ c :: b) (hb : c ∉ b) : tl (Txt.rpartition x ⟨#[c]⟩).1 = a := by
  have hy : tl (⟨#[c]⟩ : Str) ≠ [] := by simp [tl]
  have at' : ∀ i, At x ⟨#[c]⟩ x.length i ↔ (tl x)[i]? = some c := fun i => by
    rw [at_iff hy]
    show (((tl x).drop i).take 1 == [c]) = true ↔ _
    exact take1_drop
  have hit : At x ⟨#[c]⟩ x.length a.length := (at' _).mpr (by rw [e]; simp)
  unfold Txt.rpartition
  rcases last_spec x ⟨#[c]⟩ with ⟨e1, h⟩ | ⟨i, e1, h1, h2⟩
  · exact absurd hit (h _)
  · rw [e1]
    show tl (strSub x 0 i) = a
    have hi : i = a.length := by
      rcases Nat.lt_trichotomy i a.length with q | q | q
      · exact absurd hit (h2 _ q)
      · exact q
      · have g := (at' i).mp h1
        rw [e, List.getElem?_append_right (by omega)] at g
        obtain ⟨k, hk⟩ : ∃ k, i - a.length = k + 1 := ⟨i - a.length - 1, by omega⟩
        rw [hk, List.getElem?_cons_succ] at g
        exact absurd (List.mem_of_getElem? g) hb
    rw [tl_strSub, hi, e]
    simp
theorem tl_S (l : List Nat) : tl ⟨l.toArray⟩ = l := rfl
theorem str_eq_iff {x y : Str} : x = y ↔ tl x = tl y := ⟨fun e => by rw [e], ext_tl⟩
end Kb
namespace Kb
open PySem PySem.Spec PyProof.Rows L2 TL PySem.StrLaws Builtin.Str
theorem cutS_to (z : Str) {i : Int} (h : 0 ≤ i) : tl (cutS z none (some i)) = (tl z).take i.toNat := by
  obtain ⟨k, rfl⟩ : ∃ k : Nat, i = (k : Int) := ⟨i.toNat, by omega⟩
  show ((tl z).drop (HT.sIx z.length 0 none)).take (HT.sIx z.length z.length (some (k : Int)) - HT.sIx z.length 0 none) = _
  rw [HT.sIx_none, HT.sIx_nat, List.drop_zero, Nat.sub_zero, Int.toNat_natCast, len_tl, ← List.take_take, List.take_of_length_le (Nat.le_refl _)]
end Kb
namespace Kb
open PySem PySem.Spec PyProof.Rows L2 TL PySem.StrLaws Builtin.Str
theorem cutV_to (xs : List V) {i : Int} (h : 0 ≤ i) : cutV xs none (some i) = xs.take i.toNat := by
  obtain ⟨k, rfl⟩ : ∃ k : Nat, i = (k : Int) := ⟨i.toNat, by omega⟩
  show (xs.drop (HT.sIx xs.length 0 none)).take (HT.sIx xs.length xs.length (some (k : Int)) - HT.sIx xs.length 0 none) = _
  rw [HT.sIx_none, HT.sIx_nat, List.drop_zero, Nat.sub_zero, Int.toNat_natCast, ← List.take_take, List.take_of_length_le (Nat.le_refl _)]
theorem cutV_m1 (xs : List V) : cutV xs none (some (-1)) = xs.dropLast := by
  show (xs.drop (HT.sIx xs.length 0 none)).take (HT.sIx xs.length xs.length (some (-1)) - HT.sIx xs.length 0 none) = _
  rw [HT.sIx_none, List.drop_zero, Nat.sub_zero, List.dropLast_eq_take]
  have e : HT.sIx xs.length xs.length (some (-1)) = xs.length - 1 := by
    show (if (-1 : Int) < 0 then ((-1 : Int) + (xs.length : Int)).toNat else min (-1 : Int).toNat xs.length) = _
    rw [if_pos (by decide)]
    omega
  rw [e]
theorem sp1_mem {c s : Nat} : ∀ {l p : List Nat}, p ∈ sp1 c l → s ∈ p → s ∈ l
  | [], p, h, hs => by simp only [sp1, List.mem_singleton] at h; subst h; exact hs
  | x :: l, p, h, hs => by
    obtain ⟨q, r, e⟩ := sp1_cons c l
    have ih := fun p => sp1_mem (c := c) (s := s) (l := l) (p := p)
    by_cases hx : x = c
    · subst hx
      rw [sp1_hit] at h
      rcases List.mem_cons.mp h with rfl | h
      · cases hs
      · exact List.mem_cons_of_mem _ (ih p h hs)
    · rw [sp1_miss hx e] at h
      rw [e] at ih
      rcases List.mem_cons.mp h with rfl | h
      · rcases List.mem_cons.mp hs with rfl | hs
        · exact List.mem_cons_self ..
        · exact List.mem_cons_of_mem _ (ih q (List.mem_cons_self ..) hs)
      · exact List.mem_cons_of_mem _ (ih p (List.mem_cons_of_mem _ h) hs)
theorem split_mem {x p : Str} {c : Nat} (hc : c < 256) (h : p ∈ Txt.split x ⟨#[c]⟩) : ∀ s ∈ tl p, s ∈ tl x := fun s hs =>
  sp1_mem (c := c) (by rw [← split_sp1 x hc]; exact List.mem_map.mpr ⟨p, h, rfl⟩) hs
theorem split_strOk {x : Str} {c : Nat} (hc : c < 256) (hx : ∀ s ∈ tl x, s < 1114112) : ∀ p ∈ Txt.split x ⟨#[c]⟩, PyData.canLay0 (.str p) = true := fun p hp => by
  rw [PyData.canLay0]
  show p.cps.all _ = true
  rw [Array.all_eq_true_iff_forall_mem]
  intro s hs
  exact decide_eq_true (hx s (split_mem hc hp s (Array.mem_toList_iff.mpr hs)))
theorem prefix_snoc {q p : List Nat} {c : Nat} : (q ++ [c]) <+: p ↔ q <+: p ∧ p[q.length]? = some c := by
  constructor
  · rintro ⟨r, e⟩
    refine ⟨⟨c :: r, by rw [← e]; simp⟩, ?_⟩
    rw [← e]; simp
  · rintro ⟨⟨r, e⟩, h⟩
    rw [← e, List.getElem?_append_right (Nat.le_refl _), Nat.sub_self] at h
    cases r with
    | nil => cases h
    | cons a r =>
      cases h
      exact ⟨r, by rw [← e]; simp⟩
theorem snoc_of_ne {l : List Nat} (h : l ≠ []) : ∃ r c, l = r ++ [c] := ⟨l.dropLast, l.getLast h, (List.dropLast_concat_getLast h).symm⟩
theorem sp1_length {c : Nat} : ∀ l : List Nat, (sp1 c l).length ≤ l.length + 1
  | [] => by simp [sp1]
  | x :: l => by
    obtain ⟨q, r, e⟩ := sp1_cons c l
    have ih := sp1_length (c := c) l
    by_cases hx : x = c
    · subst hx; rw [sp1_hit]; simp; omega
    · rw [sp1_miss hx e]; rw [e] at ih; simp at ih ⊢; omega
theorem split_length (x : Str) {c : Nat} (hc : c < 256) : (Txt.split x ⟨#[c]⟩).length ≤ x.length + 1 := by
  have := sp1_length (c := c) (tl x)
  rw [← split_sp1 x hc, List.length_map] at this
  rw [len_tl]; exact this
end Kb
namespace Kb
open PySem PySem.Spec PyProof.Rows L2 TL PySem.StrLaws Builtin.Str
theorem sp1_mem_len {c : Nat} : ∀ {l p : List Nat}, p ∈ sp1 c l → p.length ≤ l.length
  | [], p, h => by simp only [sp1, List.mem_singleton] at h; subst h; simp
  | x :: l, p, h => by
    obtain ⟨q, r, e⟩ := sp1_cons c l
    have ih := fun p => sp1_mem_len (c := c) (l := l) (p := p)
    by_cases hx : x = c
    · subst hx
      rw [sp1_hit] at h
      rcases List.mem_cons.mp h with rfl | h
      · simp
      · have := ih p h; simp; omega
    · rw [sp1_miss hx e] at h
      rw [e] at ih
      rcases List.mem_cons.mp h with rfl | h
      · have := ih q (List.mem_cons_self ..); simp; omega
      · have := ih p (List.mem_cons_of_mem _ h); simp; omega
theorem split_mem_len {x p : Str} {c : Nat} (hc : c < 256) (h : p ∈ Txt.split x ⟨#[c]⟩) : p.length ≤ x.length := by
  rw [len_tl, len_tl]
  exact sp1_mem_len (c := c) (by rw [← split_sp1 x hc]; exact List.mem_map.mpr ⟨p, h, rfl⟩)
theorem joinL_nil {c : Nat} : ∀ {L : List (List Nat)}, joinL [c] L = [] → L = [] ∨ L = [[]]
  | [], _ => .inl rfl
  | [p], h => .inr (by rw [show p = [] from h])
  | p :: q :: r, h => by
    have : p ++ ([c] ++ joinL [c] (q :: r)) = [] := h
    simp at this
theorem join_tl (y : Str) (parts : List Str) : tl (Txt.join y parts) = joinL (tl y) (parts.map tl) := by rw [join_eq, tl_join]
end Kb
namespace Kb
open PySem PySem.Spec PyProof.Rows L2 TL PySem.StrLaws Builtin.Str
theorem cutV_from (xs : List V) {i : Int} (h : 0 ≤ i) : cutV xs (some i) none = xs.drop i.toNat := by
  obtain ⟨k, rfl⟩ : ∃ k : Nat, i = (k : Int) := ⟨i.toNat, by omega⟩
  show (xs.drop (HT.sIx xs.length 0 (some (k : Int)))).take (HT.sIx xs.length xs.length none - HT.sIx xs.length 0 (some (k : Int))) = _
  rw [HT.sIx_none, HT.sIx_nat, Int.toNat_natCast]
  rcases Nat.le_total k xs.length with q | q
  · rw [Nat.min_eq_left q, List.take_of_length_le (by rw [List.length_drop]; omega)]
  · rw [Nat.min_eq_right q, List.drop_length, List.drop_eq_nil_of_le q, List.take_nil]
end Kb

namespace Kb
open PySem PySem.Spec PyProof.Rows L2
section
variable {X : Cx}
theorem pe_gc {x : Str} {pos : Pos} {v : V} (hg : Gl X x) (h : ∃ u, X.mg x = some u ∧ RelV v u) (hd : (x == ("__debug__" : Str)) = false := by decide) : PE X (.Name x pos) (tC v) := by
  obtain ⟨u, hm, r⟩ := h
  exact pe_glob hg hm r hd
theorem mt_rpartition : MtR X "str.rpartition" (fun x xs H Q => ∃ a b, x = .str a ∧ xs = [.str b] ∧ (b.length == 0) = false ∧ a.length ≤ sizeLine ∧
    ∀ p, H p = none → Q (.ref p) (upd H p (.tup [.str (Txt.rpartition a b).1, .str (Txt.rpartition a b).2.1, .str (Txt.rpartition a b).2.2]))) := by
  intro pins s σ H x xs v us Q I rx rs h
  obtain ⟨a, b, rfl, rfl, hb, hz, h⟩ := h
  obtain ⟨t, rfl⟩ := rx
  cases rs with
  | cons r1 rs =>
    cases rs
    obtain ⟨u, rfl⟩ := r1
    refine call_meets F.slot_str_rpartition (typeIs_str _ _ _) F.entry_str_rpartition (F.args_str_rpartition_2 _ _) (meets_str_rpartition a b t u hb hz) ?_
    unfold Txt.rpartition at h
    revert h
    cases Builtin.Str.lastOccurrence a b 0 a.length with
    | none => intro h; exact laid_parts I h
    | some i => intro h; exact laid_parts I h
end
/-! ### frames -/
/-- all that was tracked is as it was, but for d -/
def Keep (d : Addr) (H H' : Hp) : Prop := ∀ b o, H b = some o → b ≠ d → H' b = some o
theorem Keep.refl {d : Addr} {H : Hp} : Keep d H H := fun _ _ h _ => h
theorem Keep.trans {d : Addr} {H H1 H2 : Hp} (a : Keep d H H1) (b : Keep d H1 H2) : Keep d H H2 := fun c o h n => b c o (a c o h n) n
theorem Same.keep {d : Addr} {H H' : Hp} (a : Same H H') : Keep d H H' := fun c o h _ => a c o h
theorem Same.new {H : Hp} {p : Addr} {o : HO} (h : H p = none) : Same H (upd H p o) := fun b u e => by
  rw [upd_ne (ne_of_none e h)]
  exact e
theorem Keep.upd {d : Addr} {H H' : Hp} {o : HO} (a : Keep d H H') : Keep d H (upd H' d o) := fun c u h n => by
  rw [upd_ne n]
  exact a c u h n
theorem Keep.same {d : Addr} {H H1 H2 : Hp} (a : Keep d H H1) (b : Same H1 H2) : Keep d H H2 := fun c o h n => b c o (a c o h n)
theorem Same.then {d : Addr} {H H1 H2 : Hp} (a : Same H H1) (b : Keep d H1 H2) : Keep d H H2 := fun c o h n => b c o (a c o h) n
theorem Keep.seqL {K : PySem.W.Frag} {d a : Addr} {H H' : Hp} {xs : List V} (k : Keep d H H') (n : a ≠ d) (h : SqL K H a xs) : SqL K H' a xs := by
  rcases h with (h | ⟨o, h⟩) | h
  · exact .inl (.inl (k _ _ h n))
  · exact .inl (.inr ⟨o, k _ _ h n⟩)
  · exact .inr h
/-- an object that is new behind d's own changes -/
theorem Keep.fresh {d : Addr} {H H' : Hp} {l : Addr} (k : Keep d H H') (hd : H d = none) (h : H' l = none) : H l = none := by
  cases q : H l with
  | none => rfl
  | some o =>
    have : l ≠ d := fun e => by rw [e, hd] at q; cases q
    rw [k l o q this] at h
    cases h
/-- what is new since H stays new in Same's way -/
theorem Keep.toSame {d : Addr} {H H' : Hp} (k : Keep d H H') (hd : H d = none) : Same H H' := fun b o h => k b o h (ne_of_none h hd)
/-! ### a menu at an index in bounds -/
theorem menu {xs : List V} {i : Int} (h0 : 0 ≤ i) (h1 : i < (xs.length : Int)) : ∃ v, v ∈ xs ∧ atI xs i = some v := by
  obtain ⟨n, rfl⟩ : ∃ n : Nat, i = (n : Int) := ⟨i.toNat, by omega⟩
  have hn : n < xs.length := by omega
  exact ⟨xs[n], List.getElem_mem hn, atI_nat (List.getElem?_eq_getElem hn)⟩
theorem iteB {b : Bool} {A B : Prop} (h1 : b = true → A) (h2 : b = false → B) : if b = true then A else B := by
  cases b
  · rw [if_neg Bool.false_ne_true]; exact h2 rfl
  · rw [if_pos rfl]; exact h1 rfl
/-! ### the draw -/
def kLeft : Key := Sum.inr "left"
def kCell : Key := Sum.inr "cell"
def kTurns : Key := Sum.inr "turns"
def dkv (l c t : Int) : List (Key × V) := [(Sum.inr "left", .int l), (Sum.inr "cell", .int c), (Sum.inr "turns", .int t)]
theorem kne1 : ¬ (("left" : Str) = "cell") := by decide +kernel
theorem kne2 : ¬ (("left" : Str) = "turns") := by decide +kernel
theorem kne3 : ¬ (("cell" : Str) = "turns") := by decide +kernel
theorem dkv_left (l c t : Int) : valV (dkv l c t) (Sum.inr "left" : Key) = some (.int l) := by
  simp [valV, dkv]
theorem dkv_cell (l c t : Int) : valV (dkv l c t) (Sum.inr "cell" : Key) = some (.int c) := by
  simp [valV, dkv, kne1]
theorem dkv_turns (l c t : Int) : valV (dkv l c t) (Sum.inr "turns" : Key) = some (.int t) := by
  simp [valV, dkv, kne2, kne3]
theorem dkv_putL (l c t x : Int) : putK (dkv l c t) (Sum.inr "left" : Key) (.int x) = dkv x c t := by
  simp [putK, dkv, Ne.symm kne1, Ne.symm kne2]
theorem dkv_putT (l c t x : Int) : putK (dkv l c t) (Sum.inr "turns" : Key) (.int x) = dkv l c x := by
  simp [putK, dkv, kne2, kne3]
def DrawAt (H : Hp) (d : Addr) (n : Nat) : Prop := ∃ l c t : Int, H d = some (.dK (dkv l c t)) ∧ 0 ≤ l ∧ 0 ≤ t ∧ t + 4 * (n : Int) ≤ 1000000000
theorem DrawAt.less {H : Hp} {d : Addr} {n m : Nat} (h : DrawAt H d n) (e : m ≤ n) : DrawAt H d m := by
  obtain ⟨l, c, t, h1, h2, h3, h4⟩ := h
  exact ⟨l, c, t, h1, h2, h3, by omega⟩
theorem DrawAt.same {H H' : Hp} {d : Addr} {n : Nat} (h : DrawAt H d n) (s : Same H H') : DrawAt H' d n := by
  obtain ⟨l, c, t, h1, h2⟩ := h
  exact ⟨l, c, t, s _ _ h1, h2⟩
theorem DrawAt.keep {H H' : Hp} {d e : Addr} {n : Nat} (h : DrawAt H d n) (s : Keep e H H') (x : d ≠ e) : DrawAt H' d n := by
  obtain ⟨l, c, t, h1, h2⟩ := h
  exact ⟨l, c, t, s _ _ h1 x, h2⟩
end Kb
namespace Kb
open PySem PySem.Spec PyProof.Rows L2
theorem dget_left {H : Hp} {d : Addr} {l c t : Int} (h : H d = some (.dK (dkv l c t))) : DGet H d (.str "left") (some (.int l)) := by
  have e := DGet.k (k := (Sum.inr "left" : Key)) h
  rw [dkv_left] at e
  exact e
theorem dget_cell {H : Hp} {d : Addr} {l c t : Int} (h : H d = some (.dK (dkv l c t))) : DGet H d (.str "cell") (some (.int c)) := by
  have e := DGet.k (k := (Sum.inr "cell" : Key)) h
  rw [dkv_cell] at e
  exact e
theorem dget_turns {H : Hp} {d : Addr} {l c t : Int} (h : H d = some (.dK (dkv l c t))) : DGet H d (.str "turns") (some (.int t)) := by
  have e := DGet.k (k := (Sum.inr "turns" : Key)) h
  rw [dkv_turns] at e
  exact e
theorem dput_left {H : Hp} {d : Addr} {l c t : Int} (x : Int) (h : H d = some (.dK (dkv l c t))) : DPut H d (.str "left") (.int x) (upd H d (.dK (dkv x c t))) := by
  have e := DPut.k (k := (Sum.inr "left" : Key)) (v := .int x) h (Nat.lt_of_lt_of_le (by show 3 < 10; decide) (by decide))
  rw [dkv_putL] at e
  exact e
theorem dput_turns {H : Hp} {d : Addr} {l c t : Int} (x : Int) (h : H d = some (.dK (dkv l c t))) : DPut H d (.str "turns") (.int x) (upd H d (.dK (dkv l c x))) := by
  have e := DPut.k (k := (Sum.inr "turns" : Key)) (v := .int x) h (Nat.lt_of_lt_of_le (by show 3 < 10; decide) (by decide))
  rw [dkv_putT] at e
  exact e
end Kb
namespace Kb
open PySem PySem.Spec PyProof.Rows L2 TL
section
variable {K : PySem.W.Frag} {a : Addr} {xs : List V} {g : TG} {tb : TS} {D : Ends} {σ : L2.St} {H : Hp}
theorem for_str {z : Str} (Pv : Nat → L2.St → Hp → Prop) (h0 : Pv 0 σ H)
    (hs : ∀ i c σ H, (tl z)[i]? = some c → Pv i σ H → g (.str ⟨#[c]⟩) σ H fun σ2 H2 => tb { D with nx := Pv (i + 1), ct := Pv (i + 1), bk := D.nx } σ2 H2) (hd : ∀ σ H, Pv (tl z).length σ H → D.nx σ H) :
    ∃ W : Nat → Nat → L2.St → Hp → Prop, (∃ m, W 0 m σ H) ∧ ∀ i m σ H, W i m σ H →
      ((Its z).stop i H ∧ D.nx σ H) ∨ ((Its z).go i H ∧ ∃ N : L2.St → Hp → Prop, (∀ σ' H', N σ' H' → ∃ m', m' < m ∧ W (i + 1) m' σ' H') ∧ ∀ x H', (Its z).yld i H x H' → g x σ H' fun σ2 H2 => tb { D with nx := N, ct := N, bk := D.nx } σ2 H2) := by
  refine for_it walk_str Pv h0 (fun _ _ _ _ _ => trivial) (fun i x σ H H' hi p y => ?_) (fun σ H p => hd σ H (by rw [show (tl z).length = z.cps.size by simp [tl]]; exact p))
  obtain ⟨rfl, c, hc, rfl⟩ := y
  exact hs i c σ _ (by rw [← hc]; simp [tl]) p
theorem for_enum (Pv : Nat → L2.St → Hp → Prop) (h0 : Pv 0 σ H) (hG : ∀ i σ H, i ≤ xs.length → Pv i σ H → SqL K H a xs)
    (hs : ∀ i x T σ H, xs[i]? = some x → Pv i σ H → H T = none → g (.ref T) σ (upd H T (.tup [.int (i : Nat), x])) fun σ2 H2 => tb { D with nx := Pv (i + 1), ct := Pv (i + 1), bk := D.nx } σ2 H2) (hd : ∀ σ H, Pv xs.length σ H → D.nx σ H) :
    ∃ W : Nat → Nat → L2.St → Hp → Prop, (∃ m, W 0 m σ H) ∧ ∀ i m σ H, W i m σ H →
      ((Ite K a).stop i H ∧ D.nx σ H) ∨ ((Ite K a).go i H ∧ ∃ N : L2.St → Hp → Prop, (∀ σ' H', N σ' H' → ∃ m', m' < m ∧ W (i + 1) m' σ' H') ∧ ∀ x H', (Ite K a).yld i H x H' → g x σ H' fun σ2 H2 => tb { D with nx := N, ct := N, bk := D.nx } σ2 H2) := by
  refine for_it walk_enum Pv h0 hG (fun i x σ H H' hi p y => ?_) hd
  obtain ⟨T, x, y, rfl, hT, rfl, h1, h2⟩ := y
  cases h1
  exact hs i y T σ H h2 p hT
end
end Kb
namespace Kb
open PySem PySem.Spec PyProof.Rows L2 TL
/-! ### == of lists of texts -/
theorem dpAll_strs {K : PySem.W.Frag} {H : Hp} : ∀ ys : List Str, DpAll K H (ys.map V.str) (ys.map PyData.str)
  | [] => .nil
  | y :: ys => .cons (.str y) (dpAll_strs ys)
theorem dp_strs {K : PySem.W.Frag} {H : Hp} {p : Addr} {ys : List Str} (h : SqL K H p (ys.map V.str)) : Dp K H (.ref p) (.list (ys.map PyData.str)) := .lst h (dpAll_strs ys)
theorem dp_strsT {K : PySem.W.Frag} {H : Hp} {p : Addr} {ys : List Str} (h : SqT K H p (ys.map V.str)) : Dp K H (.ref p) (.tuple (ys.map PyData.str)) := .tup h (dpAll_strs ys)
theorem eqvAll_strs : ∀ ys zs : List Str, PyData.eqvAll (ys.map PyData.str) (zs.map PyData.str) = decide (ys = zs)
  | [], [] => by simp [PyData.eqvAll]
  | [], z :: zs => by simp [PyData.eqvAll]
  | y :: ys, [] => by simp [PyData.eqvAll]
  | y :: ys, z :: zs => by
    rw [List.map_cons, List.map_cons, PyData.eqvAll, eqvAll_strs ys zs]
    rw [show PyData.eqv (.str y) (.str z) = (y == z) by simp [PyData.eqv]]
    rw [Bool.eq_iff_iff]
    simp
theorem canLay_strs : ∀ ys : List Str, (∀ y ∈ ys, PyData.canLay0 (.str y) = true) → PyData.canLayAll0 (ys.map PyData.str) = true
  | [], _ => by simp [PyData.canLayAll0]
  | y :: ys, h => by
    rw [List.map_cons, PyData.canLayAll0, h y (List.mem_cons_self ..), canLay_strs ys fun z hz => h z (List.mem_cons_of_mem _ hz)]; rfl
theorem depth_strs : ∀ ys : List Str, PyData.depthAll (ys.map PyData.str) = 0
  | [] => by simp [PyData.depthAll]
  | y :: ys => by
    rw [List.map_cons, PyData.depthAll, depth_strs ys]
    simp [PyData.depth]
theorem shaped_strs {ys : List Str} (h : ∀ y ∈ ys, PyData.canLay0 (.str y) = true) : SeqAt.shaped (.list (ys.map PyData.str)) = true := by
  unfold SeqAt.shaped
  rw [PyData.canLay0, canLay_strs ys h, PyData.depth, depth_strs]; rfl
end Kb
namespace Kb
open PySem PySem.Spec PyProof.Rows L2 TL
/-! ### rules with the written part named -/
def rLenQ (K : PySem.W.Frag) : List V → Hp → VK → Prop := fun xs H Q => ∃ p ys, xs = [.ref p] ∧ (SqL K H p ys ∨ SqT K H p ys) ∧ Q (.int ys.length) H
def rJoinQ (K : PySem.W.Frag) : V → List V → Hp → VK → Prop := fun x xs H Q => ∃ a p, ∃ ys : List Str, x = .str a ∧ xs = [.ref p] ∧ (SqL K H p (ys.map V.str) ∨ SqT K H p (ys.map V.str)) ∧ (ys.map (·.length)).sum + ys.length * a.length ≤ 16777216 ∧ Q (.str (Txt.join a ys)) H
end Kb
namespace Kb
open PySem PySem.Spec PyProof.Rows L2 TL
theorem DrawAt.upd {H : Hp} {d L : Addr} {n : Nat} {o : HO} (h : DrawAt H d n) (x : d ≠ L) : DrawAt (L2.upd H L o) d n := by
  obtain ⟨l, c, t, h1, h2⟩ := h
  exact ⟨l, c, t, by rw [upd_ne x]; exact h1, h2⟩
theorem DrawAt.ne {H : Hp} {d L : Addr} {n : Nat} (h : DrawAt H d n) (x : H L = none) : L ≠ d := fun e => by
  obtain ⟨_, _, _, q, _⟩ := h
  rw [e, q] at x; cases x
theorem Keep.updN {d L : Addr} {H H' : Hp} {o : HO} (k : Keep d H H') (h : H L = none) : Keep d H (L2.upd H' L o) := fun b q e n => by
  rw [upd_ne (ne_of_none e h)]
  exact k b q e n
end Kb
namespace Kb
open PySem PySem.Spec PyProof.Rows L2 TL
theorem all_at {p : Nat → Bool} {l : List Nat} {i : Nat} {c : Nat} (h : l[i]? = some c) : (l.take (i + 1)).all p = ((l.take i).all p && p c) := by
  rw [List.take_add_one, h, List.all_append]; simp
theorem allS_at {p : List Nat → Bool} {l : List Str} {i : Nat} {c : Str} (h : l[i]? = some c) : ((l.take (i + 1)).map tl).all p = (((l.take i).map tl).all p && p (tl c)) := by
  rw [List.take_add_one, h, List.map_append, List.all_append]; simp
theorem strAt {xs : List Str} {i : Nat} {v : V} (h : (xs.map V.str)[i]? = some v) : ∃ x, xs[i]? = some x ∧ v = .str x := by
  rw [List.getElem?_map] at h
  cases e : xs[i]? with
  | none => rw [e] at h; cases h
  | some x => rw [e] at h; exact ⟨x, rfl, (Option.some.inj h).symm⟩
/-- a text with f, or a value that is no text -/
def TxV (f : List Nat → Bool) (K : PySem.W.Frag) (H : Hp) (v : V) (b : Bool) : Prop :=
  (∃ x : Str, v = .str x ∧ x.length ≤ 1000000 ∧ b = f (tl x)) ∨ (∃ t : Value, TyX K H v t ∧ PySem.W.kitOne K t (.type "str") = some false ∧ b = false)
theorem kit_str (K : PySem.W.Frag) : PySem.W.kitOne K (.type "str") (.type "str") = some true := kit_ty (by decide +kernel)
theorem TxV.of {f : List Nat → Bool} {K : PySem.W.Frag} {H : Hp} {x : Str} (h : x.length ≤ 1000000) : TxV f K H (.str x) (f (tl x)) := .inl ⟨x, rfl, h, rfl⟩
end Kb

namespace Kb
open PySem PySem.Spec PyProof.Rows L2 TL
/-! ### hosts as lists of signs -/
def onlyB (g l : List Nat) : Bool := (l.all fun c => decide (c ∈ g)) && decide (l ≠ [])
def digs : List Nat := [48, 49, 50, 51, 52, 53, 54, 55, 56, 57]
def lsig : List Nat := [97, 98, 99, 100, 101, 102, 103, 104, 105, 106, 107, 108, 109, 110, 111, 112, 113, 114, 115, 116, 117, 118, 119, 120, 121, 122, 48, 49, 50, 51, 52, 53, 54, 55, 56, 57, 45]
def digB (l : List Nat) : Bool := onlyB digs l
def labB (l : List Nat) : Bool := decide (l.length ≤ 20) && (onlyB lsig l && (decide (l.head? ≠ some 45) && decide (l.getLast? ≠ some 45)))
def numB (l : List Nat) : Bool := digB l && (decide (NumText.digitsVal l ≤ 255) && (decide (l = [48]) || decide (l.head? ≠ some 48)))
def lastL (L : List (List Nat)) : List Nat := L.getLast?.getD []
def hostL (L : List (List Nat)) : Bool := decide (L.length ≤ 10) && (L.all labB && (!digB (lastL L) || (L.all numB && decide (L.length = 4))))
def hostB (l : List Nat) : Bool := decide (l.length ≤ 100) && hostL (sp1 46 l)
def addrB (l : List Nat) : Bool := hostB l && digB (lastL (sp1 46 l))
def fitB (h d : List Nat) : Bool := decide (h = d) || (!addrB h && (46 :: d).isSuffixOf h)
theorem tl_dot : tl ("." : Str) = [46] := by decide +kernel
theorem dot_eq : ("." : Str) = ⟨#[46]⟩ := ext_tl tl_dot
theorem tl_lsig : tl ("abcdefghijklmnopqrstuvwxyz0123456789-" : Str) = lsig := by decide +kernel
theorem tl_digs : tl ("0123456789" : Str) = digs := by decide +kernel
theorem hostB_len {x : Str} (h : hostB (tl x) = true) : x.length ≤ 100 := by
  unfold hostB at h
  rw [Bool.and_eq_true, decide_eq_true_eq] at h
  rw [len_tl]; exact h.1
theorem digs_iff {c : Nat} : c ∈ digs ↔ 48 ≤ c ∧ c ≤ 57 := by
  simp only [digs, List.mem_cons, List.not_mem_nil, or_false]
  omega
theorem digB_iff {l : List Nat} : digB l = true ↔ NumText.AllDigits l ∧ l ≠ [] := by
  unfold digB onlyB NumText.AllDigits
  rw [Bool.and_eq_true, List.all_eq_true, decide_eq_true_eq]
  constructor
  · rintro ⟨h, n⟩; exact ⟨fun c hc => digs_iff.mp (of_decide_eq_true (h c hc)), n⟩
  · rintro ⟨h, n⟩; exact ⟨fun c hc => decide_eq_true (digs_iff.mpr (h c hc)), n⟩
theorem int_dig {x : Str} (h : digB (tl x) = true) (hl : x.length ≤ 640) : intText? x = some ((NumText.digitsVal (tl x) : Nat) : Int) :=
  intText_digits (digB_iff.mp h).1 (digB_iff.mp h).2 (by omega)
theorem lsig_lt {c : Nat} (h : c ∈ lsig) : c < 128 ∧ 45 ≤ c := by
  simp only [lsig, List.mem_cons, List.not_mem_nil, or_false] at h
  omega
theorem dot_free {l : List Nat} (h : labB l = true) : 46 ∉ l := fun hm => by
  unfold labB onlyB at h
  simp only [Bool.and_eq_true, List.all_eq_true, decide_eq_true_eq] at h
  exact absurd (h.2.1.1 46 hm) (by decide)
theorem lab_ne {l : List Nat} (h : labB l = true) : l ≠ [] := by
  unfold labB onlyB at h
  simp only [Bool.and_eq_true, List.all_eq_true, decide_eq_true_eq] at h
  exact h.2.1.2
theorem lab_len {l : List Nat} (h : labB l = true) : l.length ≤ 20 := by
  unfold labB at h
  simp only [Bool.and_eq_true, decide_eq_true_eq] at h
  exact h.1
theorem lab_sign {l : List Nat} (h : labB l = true) {c : Nat} (hc : c ∈ l) : c ∈ lsig := by
  unfold labB onlyB at h
  simp only [Bool.and_eq_true, List.all_eq_true, decide_eq_true_eq] at h
  exact h.2.1.1 c hc
theorem lastL_snoc (L : List (List Nat)) (p : List Nat) : lastL (L ++ [p]) = p := by
  unfold lastL; rw [List.getLast?_concat]; rfl
/-- joined labels are their parts -/
theorem sp1_joinL {c : Nat} : ∀ {L : List (List Nat)}, L ≠ [] → (∀ p ∈ L, c ∉ p) → sp1 c (joinL [c] L) = L
  | [], h, _ => absurd rfl h
  | [p], _, hp => sp1_of_free (hp p (List.mem_singleton.mpr rfl))
  | p :: q :: r, _, hp => by
    show sp1 c (p ++ (c :: joinL [c] (q :: r))) = _
    rw [sp1_app, sp1_of_free (hp p (List.mem_cons_self ..)), sp1_joinL (by simp) fun z hz => hp z (List.mem_cons_of_mem _ hz)]
    rfl
theorem joinL_app {c : Nat} : ∀ {L M : List (List Nat)}, L ≠ [] → M ≠ [] → joinL [c] (L ++ M) = joinL [c] L ++ c :: joinL [c] M
  | [], _, h, _ => absurd rfl h
  | [p], m :: M, _, _ => rfl
  | [p], [], _, h => absurd rfl h
  | p :: q :: r, M, _, hM => by
    show p ++ (c :: joinL [c] (q :: r ++ M)) = _
    rw [joinL_app (L := q :: r) (by simp) hM]
    simp [joinL]
/-- d's parts are the last parts exactly if it is all, or stands behind a sign -/
theorem sp1_suffix (c : Nat) (h d : List Nat) : ((sp1 c d).length ≤ (sp1 c h).length ∧ (sp1 c h).drop ((sp1 c h).length - (sp1 c d).length) = sp1 c d) ↔ (h = d ∨ (c :: d) <:+ h) := by
  constructor
  · rintro ⟨h1, h2⟩
    have e : sp1 c h = (sp1 c h).take ((sp1 c h).length - (sp1 c d).length) ++ sp1 c d := by
      conv => lhs; rw [← List.take_append_drop ((sp1 c h).length - (sp1 c d).length) (sp1 c h), h2]
    by_cases ht : (sp1 c h).take ((sp1 c h).length - (sp1 c d).length) = []
    · rw [ht, List.nil_append] at e
      exact .inl (by rw [← joinL_sp1 c h, e, joinL_sp1])
    · refine .inr ⟨joinL [c] ((sp1 c h).take ((sp1 c h).length - (sp1 c d).length)), ?_⟩
      have e2 := joinL_sp1 c h
      rw [e, joinL_app ht (sp1_ne c d), joinL_sp1] at e2
      exact e2
  · rintro (rfl | ⟨r, e⟩)
    · simp
    · rw [← e, sp1_app, List.length_append]
      refine ⟨by omega, ?_⟩
      rw [Nat.add_sub_cancel, List.drop_left]
end Kb
namespace Kb
open PySem PySem.Spec PyProof.Rows L2 TL
/-! ### drawn hosts: small labels that are no numbers -/
def wlab (l : List Nat) : Bool := labB l && (!digB l && decide (l.length ≤ 4))
def HostW (n : Nat) (x : Str) : Prop := ∃ L : List (List Nat), L ≠ [] ∧ L.length ≤ n ∧ (∀ l ∈ L, wlab l = true) ∧ tl x = joinL [46] L
theorem wlab_lab {l : List Nat} (h : wlab l = true) : labB l = true ∧ digB l = false ∧ l.length ≤ 4 := by
  unfold wlab at h
  simp only [Bool.and_eq_true, Bool.not_eq_true', decide_eq_true_eq] at h
  exact h
theorem joinL_len {c B : Nat} : ∀ L : List (List Nat), (∀ l ∈ L, l.length ≤ B) → (joinL [c] L).length ≤ L.length * (B + 1)
  | [], _ => by simp [joinL]
  | [p], h => by have := h p (List.mem_singleton.mpr rfl); simp [joinL]; omega
  | p :: q :: r, h => by
    have h1 := h p (List.mem_cons_self ..)
    have h2 := joinL_len (c := c) (q :: r) fun l hl => h l (List.mem_cons_of_mem _ hl)
    show (p ++ (c :: joinL [c] (q :: r))).length ≤ _
    rw [List.length_append, List.length_cons, List.length_cons (a := p), Nat.succ_mul]
    omega
theorem lastL_mem {L : List (List Nat)} (h : L ≠ []) : lastL L ∈ L := by
  have e : L = L.dropLast ++ [L.getLast h] := (List.dropLast_concat_getLast h).symm
  have e2 : lastL L = L.getLast h := by
    conv => lhs; rw [e]
    exact lastL_snoc _ _
  rw [e2]
  exact List.getLast_mem h
theorem HostW.parts {n : Nat} {x : Str} (h : HostW n x) : ∃ L : List (List Nat), sp1 46 (tl x) = L ∧ L ≠ [] ∧ L.length ≤ n ∧ (∀ l ∈ L, wlab l = true) ∧ tl x = joinL [46] L := by
  obtain ⟨L, h1, h2, h3, h4⟩ := h
  exact ⟨L, by rw [h4, sp1_joinL h1 fun p hp => dot_free (wlab_lab (h3 p hp)).1], h1, h2, h3, h4⟩
theorem HostW.len {n : Nat} {x : Str} (h : HostW n x) : x.length ≤ 5 * n := by
  obtain ⟨L, h1, h2, h3, h4⟩ := h
  rw [len_tl, h4]
  have := joinL_len (c := 46) (B := 4) L fun l hl => (wlab_lab (h3 l hl)).2.2
  omega
theorem HostW.host {n : Nat} {x : Str} (h : HostW n x) (hn : n ≤ 10) : hostB (tl x) = true ∧ digB (lastL (sp1 46 (tl x))) = false := by
  have hl := h.len
  obtain ⟨L, e, h1, h2, h3, h4⟩ := h.parts
  have hz : digB (lastL L) = false := (wlab_lab (h3 _ (lastL_mem h1))).2.1
  rw [e]
  refine ⟨?_, hz⟩
  unfold hostB hostL
  rw [e, hz, decide_eq_true (by rw [← len_tl]; omega), decide_eq_true (by omega), List.all_eq_true.mpr fun l hl => (wlab_lab (h3 l hl)).1]
  rfl
theorem HostW.more {n m : Nat} {x : Str} (h : HostW n x) (e : n ≤ m) : HostW m x := by
  obtain ⟨L, h1, h2, h3, h4⟩ := h
  exact ⟨L, h1, Nat.le_trans h2 e, h3, h4⟩
theorem HostW.dot {n m : Nat} {x y : Str} (h : HostW n x) (k : HostW m y) : HostW (n + m) (x ++ "." ++ y) := by
  obtain ⟨L, h1, h2, h3, h4⟩ := h
  obtain ⟨M, k1, k2, k3, k4⟩ := k
  refine ⟨L ++ M, by simp [h1], by rw [List.length_append]; omega, fun l hl => ?_, ?_⟩
  · rcases List.mem_append.mp hl with q | q
    · exact h3 l q
    · exact k3 l q
  · rw [tl_append, tl_append, tl_dot, h4, k4, joinL_app h1 k1, List.append_assoc]; rfl
/-- address hosts: four numbers -/
def AddrW (x : Str) : Prop := ∃ L : List (List Nat), L.length = 4 ∧ (∀ l ∈ L, ∃ n : Nat, n < 256 ∧ l = numL n) ∧ tl x = joinL [46] L
theorem num_ok : ∀ n : Nat, n < 256 → (labB (numL n) && (numB (numL n) && (digB (numL n) && decide ((numL n).length ≤ 3)))) = true := by decide +kernel
theorem AddrW.parts {x : Str} (h : AddrW x) : ∃ L : List (List Nat), sp1 46 (tl x) = L ∧ L.length = 4 ∧ (∀ l ∈ L, labB l = true ∧ numB l = true ∧ digB l = true ∧ l.length ≤ 3) ∧ tl x = joinL [46] L := by
  obtain ⟨L, h1, h2, h3⟩ := h
  have h4 : ∀ l ∈ L, labB l = true ∧ numB l = true ∧ digB l = true ∧ l.length ≤ 3 := fun l hl => by
    obtain ⟨n, hn, rfl⟩ := h2 l hl
    have := num_ok n hn
    simp only [Bool.and_eq_true, decide_eq_true_eq] at this
    exact this
  refine ⟨L, ?_, h1, h4, h3⟩
  rw [h3, sp1_joinL (by intro e; rw [e] at h1; cases h1) fun p hp => dot_free (h4 p hp).1]
theorem AddrW.len {x : Str} (h : AddrW x) : x.length ≤ 16 := by
  obtain ⟨L, e, h1, h2, h3⟩ := h.parts
  rw [len_tl, h3]
  have := joinL_len (c := 46) (B := 3) L fun l hl => (h2 l hl).2.2.2
  omega
theorem AddrW.host {x : Str} (h : AddrW x) : hostB (tl x) = true ∧ digB (lastL (sp1 46 (tl x))) = true := by
  have hl := h.len
  obtain ⟨L, e, h1, h2, h3⟩ := h.parts
  have hz : digB (lastL L) = true := (h2 _ (lastL_mem (by intro e; rw [e] at h1; cases h1))).2.2.1
  rw [e]
  refine ⟨?_, hz⟩
  unfold hostB hostL
  rw [e, hz, decide_eq_true (by rw [← len_tl]; omega), decide_eq_true (by omega), List.all_eq_true.mpr fun l hl => (h2 l hl).1, List.all_eq_true.mpr fun l hl => (h2 l hl).2.1, decide_eq_true h1]
  rfl
/-- what a host is, for the law's own reckoning -/
theorem fit_due {h d : List Nat} (hh : hostB h = true) : fitB h d = (if digB (lastL (sp1 46 h)) = true then decide (sp1 46 h = sp1 46 d) else decide ((sp1 46 d).length ≤ (sp1 46 h).length) && decide ((sp1 46 h).drop ((sp1 46 h).length - (sp1 46 d).length) = sp1 46 d)) := by
  unfold fitB addrB
  rw [hh, Bool.true_and]
  cases hz : digB (lastL (sp1 46 h)) with
  | true =>
    rw [if_pos rfl, Bool.not_true, Bool.false_and, Bool.or_false, Bool.eq_iff_iff, decide_eq_true_eq, decide_eq_true_eq]
    exact ⟨fun e => by rw [e], fun e => by rw [← joinL_sp1 46 h, e, joinL_sp1]⟩
  | false =>
    rw [if_neg Bool.false_ne_true, Bool.not_false, Bool.true_and, Bool.eq_iff_iff, Bool.or_eq_true, Bool.and_eq_true, decide_eq_true_eq, decide_eq_true_eq, decide_eq_true_eq, List.isSuffixOf_iff_suffix]
    exact (sp1_suffix 46 h d).symm
end Kb
namespace Kb
open PySem PySem.Spec PyProof.Rows L2 TL
theorem digit_lsig : ∀ c ∈ lsig, Unicode.isDigit c = decide (c ∈ digs) := by decide +kernel
theorem isdigit_lab {z : Str} (h : labB (tl z) = true) : Txt.isdigit z = digB (tl z) := by
  unfold Txt.isdigit digB onlyB
  have hn := lab_ne h
  have h0 : decide (z.length > 0) = true := decide_eq_true (by rw [len_tl]; exact List.length_pos_iff.mpr hn)
  rw [h0, Bool.true_and, decide_eq_true hn, Bool.and_true, Bool.eq_iff_iff, Array.all_eq_true_iff_forall_mem, List.all_eq_true]
  constructor
  · intro q c hc
    rw [← digit_lsig c (lab_sign h hc)]
    exact q c (Array.mem_toList_iff.mp hc)
  · intro q c hc
    have hc := Array.mem_toList_iff.mpr hc
    rw [digit_lsig c (lab_sign h hc)]
    exact q c hc
theorem host_labels {x : Str} (h : hostB (tl x) = true) : ∀ l ∈ sp1 46 (tl x), labB l = true := by
  unfold hostB hostL at h
  simp only [Bool.and_eq_true, List.all_eq_true] at h
  exact h.2.2.1
theorem host_lt {x : Str} (h : hostB (tl x) = true) : ∀ s ∈ tl x, s < 1114112 := fun s hs => by
  have hl := host_labels h
  rw [← joinL_sp1 46 (tl x)] at hs
  have : ∀ L : List (List Nat), (∀ l ∈ L, labB l = true) → ∀ s ∈ joinL [46] L, s = 46 ∨ s ∈ lsig := by
    intro L
    induction L with
    | nil => intro _ s hs; cases hs
    | cons p L ih =>
      intro hL s hs
      cases L with
      | nil => exact .inr (lab_sign (hL p (List.mem_cons_self ..)) hs)
      | cons q r =>
        have hs : s ∈ p ++ (46 :: joinL [46] (q :: r)) := hs
        rcases List.mem_append.mp hs with a | a
        · exact .inr (lab_sign (hL p (List.mem_cons_self ..)) a)
        · rcases List.mem_cons.mp a with a | a
          · exact .inl a
          · exact ih (fun l hl => hL l (List.mem_cons_of_mem _ hl)) s a
  rcases this _ hl s hs with rfl | q
  · decide
  · have := lsig_lt q; omega
end Kb

namespace Kb
open PySem PySem.Spec PyProof.Rows L2 TL PySem.Builtin PySem.Builtin.Str
/-! ### what is stripped away of a text at both ends -/
theorem strip_none (x g : Str) : (Txt.stripChars x g = ("" : Str)) ↔ ∀ c ∈ tl x, c ∈ tl g := by
  unfold Txt.stripChars
  rw [stripBy_eq]
  have hc : ∀ c, g.cps.contains c = true ↔ c ∈ tl g := fun c => by
    unfold tl
    rw [← Array.contains_toList, List.contains_iff_mem]
  obtain ⟨l1, l2, l3⟩ := lo_facts g.cps.contains x
  obtain ⟨h1, h2, h3, h4⟩ := hi_facts g.cps.contains x _ l1
  generalize stripLo g.cps.contains true x = lo at *
  generalize stripHi g.cps.contains true x lo = hi at *
  have hx : x.length = (tl x).length := len_tl x
  have e0 : (strSub x lo hi = ("" : Str)) ↔ hi = lo := by
    constructor
    · intro e
      have : (strSub x lo hi).length = 0 := by rw [e]; decide +kernel
      simp [strSub, Str.length] at this
      have hx' : x.length = x.cps.size := rfl
      omega
    · intro e
      subst e
      apply ext_tl
      simp [strSub, tl]
      decide +kernel
  rw [e0]
  have gd : ∀ k, k < x.length → ∃ c, (tl x)[k]? = some c ∧ x.cps.getD k 0 = c := fun k hk => by
    refine ⟨x.cps.getD k 0, ?_, rfl⟩
    have hk' : k < x.cps.size := hk
    simp [tl, Array.getD, hk']
  constructor
  · intro e c hm
    obtain ⟨k, hk⟩ := List.mem_iff_getElem?.mp hm
    have hl : k < (tl x).length := by
      rw [List.getElem?_eq_some_iff] at hk
      exact hk.1
    rw [← hx] at hl
    obtain ⟨c', e1, e2⟩ := gd k hl
    rw [hk] at e1
    cases e1
    rw [← hc]
    by_cases q : k < lo
    · have := l2 k q; rw [e2] at this; exact this
    · have := h3 k (by omega) hl; rw [e2] at this; exact this
  · intro al
    have al' : ∀ k, k < x.length → g.cps.contains (x.cps.getD k 0) = true := fun k hk => by
      obtain ⟨c, e1, e2⟩ := gd k hk
      rw [e2, hc]
      exact al c (List.mem_of_getElem? e1)
    by_cases q : lo = x.length
    · omega
    · have := l3.resolve_left q
      rw [al' lo (by omega)] at this
      cases this
theorem strip_only (x g : Str) : (!decide (V.str x = V.str ("" : Str)) && decide (V.str (Txt.stripChars x g) = V.str ("" : Str))) = onlyB (tl g) (tl x) := by
  unfold onlyB
  rw [Bool.eq_iff_iff, Bool.and_eq_true, Bool.and_eq_true, Bool.not_eq_true', decide_eq_true_eq, decide_eq_true_eq, decide_eq_false_iff_not, List.all_eq_true]
  have e1 : (V.str x = V.str ("" : Str)) ↔ tl x = [] := ⟨fun q => by rw [V.str.inj q]; decide +kernel, fun q => by rw [show x = ("" : Str) from ext_tl (by rw [q]; decide +kernel)]⟩
  have e2 : (V.str (Txt.stripChars x g) = V.str ("" : Str)) ↔ ∀ c ∈ tl x, c ∈ tl g := by
    rw [← strip_none]
    exact ⟨fun q => V.str.inj q, fun q => by rw [q]⟩
  rw [e1, e2]
  constructor
  · rintro ⟨a, b⟩; exact ⟨fun c hc => decide_eq_true (b c hc), a⟩
  · rintro ⟨a, b⟩; exact ⟨b, fun c hc => of_decide_eq_true (a c hc)⟩
end Kb

namespace Kb
open PySem PySem.Spec PyProof.Rows L2
/-! ### a tuple times one -/
theorem tuple_mul1 (l : Addr) (items : Array Value) (n : Nat) (dd : Option Addr) (sl : Array (Option Value)) (u : Tok) :
    Meets (Builtin.«tuple.__mul__» ⟨[.ref l, .int 1 u], []⟩) (fun _ R s => s.heap.get? l = some { cls := .type "tuple", dict := dd, data := .seq items n, slots := sl } ∧
      R (.ok (.ret (Value.ref l))) s) :=
  .of_wp fun prog w A R s h => by
    obtain ⟨hp, g, d, tk, os⟩ := s
    obtain ⟨hl, h⟩ := h
    have f1 := AutoSeq1.idx_int
    have c1 : (items.isEmpty || (1 : Int) == 1) = true := by simp
    wp_walk using wpAny_loadPart' hl
    repeat (first
      | (refine wpAny_ite_false (decide_eq_false (by decide)) ?_; wp_walk using wpAny_loadPart' hl)
      | (refine wpAny_ite_true (decide_eq_true (by exact c1)) ?_; wp_walk using wpAny_loadPart' hl))
    all_goals first | exact ⟨_, rfl, h⟩ | skip
def rRep1 (K : PySem.W.Frag) : R2 := fun x y H Q => ∃ l xs, x = .ref l ∧ y = .int 1 ∧ SqT K H l xs ∧ Q (.ref l) H
section
variable {X : Cx}
theorem op_rep1 : OpR X (binaryOp .Mult) (rRep1 X.K) := by
  intro pins s σ H x y v u Q I rx ry h
  obtain ⟨l, xs, rfl, rfl, hT, q⟩ := h
  cases rx
  obtain ⟨t, rfl⟩ := ry
  obtain ⟨its, r, ⟨⟨cls, dd, data, sl⟩, ho, hc, n, hd⟩, hs⟩ := I.tuple hT
  simp only at hc hd
  subst hc hd
  refine wpAny_binaryOp_repeat_ref (T := "tuple") (U := "int") (by decide) ⟨_, ho, rfl⟩ (fun s' => typeIs_int s' 1 t) noFill_tuple_mul F.fills_int_mul F.slot_int_rmul repeat_tuple F.slot_int_index.lookup
    (call_meets F.slot_int_rmul (typeIs_int s 1 t) F.entry_int_rmul (F.args_int_rmul_2 _ _) (int_rmul_tuple 1 t l its.toArray n dd sl)
      ⟨ho, rfl, ⟨_, ho, rfl⟩, call_meets F.slot_tuple_mul ⟨_, ho, rfl⟩ F.entry_tuple_mul (F.args_tuple_mul_2 _ _) (tuple_mul1 l its.toArray n dd sl t) ⟨ho, ?_⟩⟩)
  exact ⟨.ref l, H, I, rfl, q⟩
end
end Kb

namespace Kb
open PySem PySem.Spec PyProof.Rows L2 TL PySem.StrLaws Builtin.Str
/-! ### partition, removeprefix, count -/
theorem partition_behind {x : Str} {c : Nat} {a b : List Nat} (e : tl x = a ++ c :: b) (ha : c ∉ a) : tl (Txt.partition x ⟨#[c]⟩).2.2 = b := by
  have hy : tl (⟨#[c]⟩ : Str) ≠ [] := by simp [tl]
  have at' : ∀ i, At x ⟨#[c]⟩ x.length i ↔ (tl x)[i]? = some c := fun i => by
    rw [at_iff hy]
    show (((tl x).drop i).take 1 == [c]) = true ↔ _
    exact take1_drop
  have hit : At x ⟨#[c]⟩ x.length a.length := (at' _).mpr (by rw [e]; simp)
  have key : ∀ i, At x ⟨#[c]⟩ x.length i → (∀ k, k < i → ¬ At x ⟨#[c]⟩ x.length k) → i = a.length := fun i h1 h2 => by
    rcases Nat.lt_trichotomy i a.length with q | q | q
    · have g := (at' i).mp h1
      rw [e, List.getElem?_append_left q] at g
      exact absurd (List.mem_of_getElem? g) ha
    · exact q
    · exact absurd hit (h2 _ q)
  have fw := find_whole x ⟨#[c]⟩
  unfold Txt.find at fw
  unfold Txt.partition
  cases ho : occurrences x ⟨#[c]⟩ 0 x.length 1 with
  | nil =>
    rw [ho] at fw
    rcases fw with ⟨_, h⟩ | ⟨i, e1, _⟩
    · exact absurd hit (h _)
    · simp only at e1; omega
  | cons j r =>
    rw [ho] at fw
    rcases fw with ⟨e1, _⟩ | ⟨i, e1, h1, h2⟩
    · simp only at e1; omega
    · simp only at e1
      have hj : j = a.length := (Int.ofNat_inj.mp e1) ▸ key i h1 h2
      show tl (strSub x (j + 1) x.length) = b
      rw [tl_strSub, hj, e, len_tl, e]
      rw [show a ++ c :: b = (a ++ [c]) ++ b by simp, List.drop_left' (by simp)]
      rw [List.take_of_length_le (by simp; omega)]
theorem partition_none {x : Str} {c : Nat} (h : c ∉ tl x) : tl (Txt.partition x ⟨#[c]⟩).2.2 = [] := by
  have hy : tl (⟨#[c]⟩ : Str) ≠ [] := by simp [tl]
  have at' : ∀ i, At x ⟨#[c]⟩ x.length i ↔ (tl x)[i]? = some c := fun i => by
    rw [at_iff hy]
    show (((tl x).drop i).take 1 == [c]) = true ↔ _
    exact take1_drop
  have fw := find_whole x ⟨#[c]⟩
  unfold Txt.find at fw
  unfold Txt.partition
  cases ho : occurrences x ⟨#[c]⟩ 0 x.length 1 with
  | nil => rfl
  | cons j r =>
    rw [ho] at fw
    rcases fw with ⟨e1, _⟩ | ⟨i, e1, h1, h2⟩
    · simp only at e1; omega
    · exact absurd (List.mem_of_getElem? ((at' i).mp h1)) h
theorem removeprefix_hit {x y : Str} {b : List Nat} (e : tl x = tl y ++ b) : tl (Txt.removeprefix x y) = b := by
  unfold Txt.removeprefix
  have hs : subAt x y 0 = true := by
    rw [subAt_eq, List.drop_zero]
    show (List.take y.length (tl x) == tl y) = true
    rw [e, len_tl, List.take_left, beq_iff_eq]
  rw [if_pos hs]
  show tl (if x.length - y.length == x.length then x else strSub x y.length x.length) = b
  by_cases h0 : y.length = 0
  · rw [if_pos (by simp [h0])]
    rw [len_tl] at h0
    rw [e, List.eq_nil_of_length_eq_zero h0, List.nil_append]
  · have hx : x.length = y.length + b.length := by rw [len_tl, e, List.length_append, ← len_tl]
    rw [if_neg (by simp; omega), tl_strSub_end, e, len_tl, List.drop_left]
theorem removeprefix_miss {x y : Str} (h : ¬ tl y <+: tl x) : Txt.removeprefix x y = x := by
  unfold Txt.removeprefix
  rw [if_neg]
  · rfl
  · intro hs
    rw [subAt_eq, List.drop_zero] at hs
    have hs : (List.take y.length (tl x) == tl y) = true := hs
    exact h ((beq_iff_eq.mp hs) ▸ List.take_prefix _ _)
theorem count_sp1 (x : Str) (c : Nat) : Txt.count x ⟨#[c]⟩ + 1 = ((sp1 c (tl x)).length : Int) := by
  rw [count_cnt]
  show cnt c (tl x) + 1 = _
  generalize tl x = l
  induction l with
  | nil => rfl
  | cons y l ih =>
    rw [cnt_cons]
    by_cases h : y = c
    · subst h
      rw [sp1_hit, if_pos rfl, List.length_cons]
      push_cast
      omega
    · obtain ⟨p, r, e⟩ := sp1_cons c l
      rw [sp1_miss h e, if_neg h]
      rw [e] at ih
      rw [List.length_cons] at ih ⊢
      omega
end Kb
namespace Kb
open PySem PySem.Spec PyProof.Rows L2 TL
/-! ### rules, and the suffixes that they give, by labels -/
def excT (t : List Nat) : Bool := decide (t.head? = some 33)
def patT (t : List Nat) : List Nat := if excT t then t.tail else t
def ruleB (t : List Nat) : Bool :=
  if excT t then decide (1 < (sp1 46 t.tail).length) && (sp1 46 t.tail).all labB
  else (sp1 46 (if [42, 46].isPrefixOf t then t.drop 2 else t)).all labB
def patL (t : List Nat) : List (List Nat) := sp1 46 (patT t)
def lastN {α : Type} (n : Nat) (w : List α) : List α := w.drop (w.length - n)
def mtL (P w : List (List Nat)) : Bool := decide (P.length ≤ w.length) && (if P.head? = some [42] then decide ((lastN P.length w).tail = P.tail) else decide (lastN P.length w = P))
def bigN (b : Nat) (q : List Nat → Bool) : List (List Nat) → Nat
  | [] => b
  | t :: rs => bigN (if q t then max b (patL t).length else b) q rs
def excN (rs w : List (List Nat)) : Nat := bigN 0 (fun t => excT t && mtL (patL t) w) rs
def lonN (rs w : List (List Nat)) : Nat := bigN 1 (fun t => !excT t && mtL (patL t) w) rs
def sufN (rs w : List (List Nat)) : Nat := if 0 < excN rs w then excN rs w - 1 else lonN rs w
def famL (rs w : List (List Nat)) : List (List Nat) := lastN ((lastN (sufN rs w) w).length + 1) w
section
variable {α : Type}
theorem lastN_len (n : Nat) (w : List α) : (lastN n w).length = min n w.length := by
  unfold lastN; rw [List.length_drop]; omega
theorem lastN_all {n : Nat} {w : List α} (h : w.length ≤ n) : lastN n w = w := by
  unfold lastN; rw [show w.length - n = 0 by omega, List.drop_zero]
theorem lastN_lastN {n m : Nat} {w : List α} (h : n ≤ m) : lastN n (lastN m w) = lastN n w := by
  unfold lastN; rw [List.drop_drop, List.length_drop]; congr 1; omega
theorem lastN_cons {n : Nat} {x : α} {w : List α} (h : n ≤ w.length) : lastN n (x :: w) = lastN n w := by
  unfold lastN
  rw [List.length_cons, show w.length + 1 - n = (w.length - n) + 1 by omega, List.drop_succ_cons]
theorem lastN_mem {n : Nat} {w : List α} {x : α} (h : x ∈ lastN n w) : x ∈ w := List.mem_of_mem_drop h
theorem lastN_min {n : Nat} {w : List α} : lastN (min n w.length) w = lastN n w := by
  unfold lastN; congr 1; omega
end
theorem cutV_last (xs : List V) {n : Nat} (h : 1 ≤ n) : cutV xs (some (-(n : Int))) none = lastN n xs := by
  show (xs.drop (HT.sIx xs.length 0 (some (-(n : Int))))).take (HT.sIx xs.length xs.length none - HT.sIx xs.length 0 (some (-(n : Int)))) = _
  have e : HT.sIx xs.length 0 (some (-(n : Int))) = xs.length - n := by
    show (if (-(n : Int)) < 0 then ((-(n : Int)) + (xs.length : Int)).toNat else min (-(n : Int)).toNat xs.length) = _
    rw [if_pos (by omega)]
    omega
  rw [e, HT.sIx_none]
  exact List.take_of_length_le (by rw [List.length_drop] <;> omega)
/-! #### the greatest of sizes -/
theorem bigN_ge (q : List Nat → Bool) : ∀ (rs : List (List Nat)) (b : Nat), b ≤ bigN b q rs
  | [], b => Nat.le_refl _
  | t :: rs, b => by
    show b ≤ bigN _ q rs
    refine Nat.le_trans ?_ (bigN_ge q rs _)
    split <;> omega
theorem bigN_mem (q : List Nat → Bool) : ∀ (rs : List (List Nat)) (b : Nat) (t : List Nat), t ∈ rs → q t = true → (patL t).length ≤ bigN b q rs
  | r :: rs, b, t, h, hq => by
    show _ ≤ bigN _ q rs
    rcases List.mem_cons.mp h with e | e
    · subst e
      have := bigN_ge q rs (if q t then max b (patL t).length else b)
      rw [if_pos hq] at this ⊢
      omega
    · exact bigN_mem q rs _ t e hq
theorem bigN_cases (q : List Nat → Bool) : ∀ (rs : List (List Nat)) (b : Nat), bigN b q rs = b ∨ ∃ t ∈ rs, q t = true ∧ bigN b q rs = (patL t).length
  | [], b => .inl rfl
  | r :: rs, b => by
    show bigN _ q rs = b ∨ _
    by_cases hq : q r = true
    · rcases bigN_cases q rs (max b (patL r).length) with e | ⟨t, h1, h2, h3⟩
      · rcases Nat.le_total (patL r).length b with g | g
        · left; rw [if_pos hq, e]; omega
        · right; exact ⟨r, List.mem_cons_self .., hq, by show bigN _ q rs = _; rw [if_pos hq, e]; omega⟩
      · right; exact ⟨t, List.mem_cons_of_mem _ h1, h2, by show bigN _ q rs = _; rw [if_pos hq, h3]⟩
    · rw [if_neg hq]
      rcases bigN_cases q rs b with e | ⟨t, h1, h2, h3⟩
      · exact .inl e
      · right; exact ⟨t, List.mem_cons_of_mem _ h1, h2, by show bigN _ q rs = _; rw [if_neg hq, h3]⟩
theorem bigN_congr {q q' : List Nat → Bool} : ∀ {rs : List (List Nat)} {b : Nat}, (∀ t ∈ rs, q t = q' t) → bigN b q rs = bigN b q' rs
  | [], b, _ => rfl
  | r :: rs, b, h => by
    show bigN _ q rs = bigN _ q' rs
    rw [h r (List.mem_cons_self ..)]
    exact bigN_congr fun t ht => h t (List.mem_cons_of_mem _ ht)
theorem bigN_snoc (q : List Nat → Bool) : ∀ (rs : List (List Nat)) (b : Nat) (t : List Nat), bigN b q (rs ++ [t]) = if q t then max (bigN b q rs) (patL t).length else bigN b q rs
  | [], b, t => rfl
  | r :: rs, b, t => by
    show bigN _ q (rs ++ [t]) = _
    rw [bigN_snoc q rs]
    rfl
/-! #### what a match tells -/
theorem mtL_len {P w : List (List Nat)} (h : mtL P w = true) : P.length ≤ w.length := by
  unfold mtL at h
  rw [Bool.and_eq_true, decide_eq_true_eq] at h
  exact h.1
theorem mtL_lastN {P w : List (List Nat)} {k : Nat} (hk : k ≤ w.length) : mtL P (lastN k w) = (decide (P.length ≤ k) && mtL P w) := by
  unfold mtL
  rw [lastN_len, Nat.min_eq_left hk]
  by_cases h : P.length ≤ k
  · rw [lastN_lastN h, decide_eq_true h, decide_eq_true (Nat.le_trans h hk)]
    rfl
  · rw [decide_eq_false h]; rfl
theorem excT_len {t : List Nat} (hr : ruleB t = true) (h : excT t = true) : 2 ≤ (patL t).length := by
  unfold ruleB at hr
  rw [if_pos h, Bool.and_eq_true, decide_eq_true_eq] at hr
  unfold patL patT
  rw [if_pos h]
  exact hr.1
theorem excN_ge {rs w : List (List Nat)} (hr : ∀ t ∈ rs, ruleB t = true) (h : 0 < excN rs w) : 2 ≤ excN rs w ∧ excN rs w ≤ w.length := by
  unfold excN at h ⊢
  rcases bigN_cases (fun t => excT t && mtL (patL t) w) rs 0 with e | ⟨t, h1, h2, h3⟩
  · omega
  · rw [h3]
    simp only [Bool.and_eq_true] at h2
    exact ⟨excT_len (hr t h1) h2.1, mtL_len h2.2⟩
theorem lonN_ge {rs w : List (List Nat)} (hw : w ≠ []) : 1 ≤ lonN rs w ∧ lonN rs w ≤ w.length := by
  have h0 : 0 < w.length := List.length_pos_iff.mpr hw
  unfold lonN
  refine ⟨bigN_ge _ _ _, ?_⟩
  rcases bigN_cases (fun t => !excT t && mtL (patL t) w) rs 1 with e | ⟨t, h1, h2, h3⟩
  · omega
  · rw [h3]
    simp only [Bool.and_eq_true] at h2
    exact mtL_len h2.2
theorem sufN_ge {rs w : List (List Nat)} (hr : ∀ t ∈ rs, ruleB t = true) (hw : w ≠ []) : 1 ≤ sufN rs w ∧ sufN rs w ≤ w.length := by
  unfold sufN
  split
  · next h => have := excN_ge hr h; omega
  · exact lonN_ge hw
theorem famL_eq {rs w : List (List Nat)} (hr : ∀ t ∈ rs, ruleB t = true) (hw : w ≠ []) : famL rs w = lastN (sufN rs w + 1) w := by
  unfold famL
  have := sufN_ge hr hw
  rw [lastN_len, Nat.min_eq_left this.2]
/-- the last labels, if they are no fewer than the family's, have the same suffix -/
theorem sufN_lastN {rs w : List (List Nat)} {k : Nat} (hr : ∀ t ∈ rs, ruleB t = true) (hw : w ≠ []) (hk : k ≤ w.length) (h : min (sufN rs w + 1) w.length ≤ k) : sufN rs (lastN k w) = sufN rs w := by
  have e1 : excN rs (lastN k w) = excN rs w := by
    unfold excN
    refine bigN_congr fun t ht => ?_
    rw [mtL_lastN hk]
    cases hx : excT t <;> cases hm : mtL (patL t) w
    · rfl
    · rfl
    · rw [Bool.and_false]
    · have g : (patL t).length ≤ excN rs w := bigN_mem _ rs 0 t ht (by simp [hx, hm])
      have g0 := excT_len (hr t ht) hx
      have g1 := excN_ge hr (w := w) (rs := rs) (by omega)
      have g2 : sufN rs w = excN rs w - 1 := by unfold sufN; rw [if_pos (by omega)]
      rw [decide_eq_true (by omega)]; rfl
  unfold sufN
  rw [e1]
  by_cases h0 : 0 < excN rs w
  · rw [if_pos h0, if_pos h0]
  · rw [if_neg h0, if_neg h0]
    unfold lonN
    refine bigN_congr fun t ht => ?_
    rw [mtL_lastN hk]
    cases hx : excT t <;> cases hm : mtL (patL t) w
    · rw [Bool.and_false]
    · have g : (patL t).length ≤ lonN rs w := bigN_mem _ rs 1 t ht (by simp [hx, hm])
      have g2 : sufN rs w = lonN rs w := by unfold sufN; rw [if_neg h0]
      have := mtL_len hm
      rw [decide_eq_true (by omega)]; rfl
    · rfl
    · rfl
/-- hosts that hold the family have this family, others have another one -/
theorem famL_part {rs w : List (List Nat)} {k : Nat} (hr : ∀ t ∈ rs, ruleB t = true) (hw : w ≠ []) (hk0 : 1 ≤ k) (hk : k ≤ w.length) : decide (famL rs (lastN k w) = famL rs w) = decide ((famL rs w).length ≤ k) := by
  have hn : lastN k w ≠ [] := fun e => by have := lastN_len k w; rw [e] at this; simp at this; omega
  rw [famL_eq hr hn, famL_eq hr hw, lastN_len]
  rw [Bool.eq_iff_iff, decide_eq_true_eq, decide_eq_true_eq]
  constructor
  · intro e
    have := congrArg List.length e
    rw [lastN_len, lastN_len, lastN_len] at this
    omega
  · intro h
    rw [sufN_lastN hr hw hk h]
    by_cases g : sufN rs w + 1 ≤ k
    · exact lastN_lastN g
    · rw [lastN_all (n := k) (by omega)]
theorem famL_idem {rs w : List (List Nat)} (hr : ∀ t ∈ rs, ruleB t = true) (hw : w ≠ []) : famL rs (famL rs w) = famL rs w := by
  have h1 := sufN_ge hr hw
  have h0 : 0 < w.length := List.length_pos_iff.mpr hw
  have e : famL rs w = lastN (min (sufN rs w + 1) w.length) w := by rw [lastN_min]; exact famL_eq hr hw
  have := famL_part (k := min (sufN rs w + 1) w.length) hr hw (by omega) (by omega)
  rw [← e] at this
  rw [← decide_eq_true_iff (p := famL rs (famL rs w) = famL rs w), this, decide_eq_true_iff, e, lastN_len]
  omega
/-- a rule that does not match changes nothing -/
theorem sufN_snoc {rs w : List (List Nat)} {t : List Nat} (h : mtL (patL t) w = false) : sufN (rs ++ [t]) w = sufN rs w := by
  unfold sufN excN lonN
  rw [bigN_snoc, bigN_snoc]
  simp only [h, Bool.and_false, Bool.false_eq_true, if_false]
end Kb
namespace Kb
open PySem PySem.Spec PyProof.Rows L2 TL
/-! #### a label in front -/
theorem mtL_cons {P w : List (List Nat)} {y : List Nat} (h : P.length ≤ w.length) : mtL P (y :: w) = mtL P w := by
  unfold mtL
  rw [lastN_cons h, decide_eq_true h, List.length_cons, decide_eq_true (by omega)]
theorem lonN_below (rs w : List (List Nat)) (y : List Nat) : lonN rs (y :: w) = lonN rs w ∨ lonN rs (y :: w) = w.length + 1 := by
  have up : lonN rs w ≤ lonN rs (y :: w) := by
    unfold lonN
    rcases bigN_cases (fun t => !excT t && mtL (patL t) w) rs 1 with e | ⟨t, h1, h2, h3⟩
    · rw [e]; exact bigN_ge _ _ _
    · rw [h3]
      simp only [Bool.and_eq_true] at h2
      exact bigN_mem _ rs 1 t h1 (by simp only [Bool.and_eq_true]; exact ⟨h2.1, by rw [mtL_cons (mtL_len h2.2)]; exact h2.2⟩)
  have lo : 1 ≤ lonN rs w := bigN_ge _ _ _
  rcases bigN_cases (fun t => !excT t && mtL (patL t) (y :: w)) rs 1 with e | ⟨t, h1, h2, h3⟩
  · left
    have e : lonN rs (y :: w) = 1 := e
    omega
  · simp only [Bool.and_eq_true] at h2
    have h3 : lonN rs (y :: w) = (patL t).length := h3
    have hl := mtL_len h2.2
    rw [List.length_cons] at hl
    by_cases g : (patL t).length ≤ w.length
    · left
      have : (patL t).length ≤ lonN rs w := bigN_mem _ rs 1 t h1 (by simp only [Bool.and_eq_true]; exact ⟨h2.1, by rw [← mtL_cons (y := y) g]; exact h2.2⟩)
      omega
    · right; omega
theorem excN_below {rs w : List (List Nat)} {y : List Nat} (h : ∀ t ∈ rs, excT t = true → (patL t).head? ≠ some [42] ∧ y ∉ patL t) : excN rs (y :: w) = excN rs w := by
  unfold excN
  refine bigN_congr fun t ht => ?_
  cases hx : excT t
  · rfl
  · obtain ⟨h1, h2⟩ := h t ht hx
    by_cases g : (patL t).length ≤ w.length
    · rw [mtL_cons g]
    · have e : mtL (patL t) w = false := by unfold mtL; rw [decide_eq_false g]; rfl
      rw [e]
      unfold mtL
      rw [if_neg h1]
      by_cases g2 : (patL t).length ≤ (y :: w).length
      · rw [List.length_cons] at g2
        rw [lastN_all (by rw [List.length_cons]; omega), decide_eq_false (p := y :: w = patL t) fun e => h2 (e ▸ List.mem_cons_self ..), Bool.and_false]
      · rw [decide_eq_false g2]; rfl
theorem famL_below {rs w : List (List Nat)} {y : List Nat} (hr : ∀ t ∈ rs, ruleB t = true) (hw : w ≠ []) (h : ∀ t ∈ rs, excT t = true → (patL t).head? ≠ some [42] ∧ y ∉ patL t) :
    (famL rs (y :: w) = famL rs w ∨ famL rs (y :: w) = y :: w) ∧ (sufN rs w = w.length → famL rs (y :: w) = y :: w) := by
  have e1 := excN_below (w := w) h
  have n1 := sufN_ge hr hw
  rw [famL_eq hr hw, famL_eq hr (List.cons_ne_nil y w)]
  by_cases h0 : 0 < excN rs w
  · have g := excN_ge hr h0
    have e2 : sufN rs w = excN rs w - 1 := by unfold sufN; rw [if_pos h0]
    have e3 : sufN rs (y :: w) = excN rs w - 1 := by unfold sufN; rw [e1, if_pos h0]
    rw [e2, e3, lastN_cons (by omega)]
    exact ⟨.inl rfl, fun q => by omega⟩
  · have e2 : sufN rs w = lonN rs w := by unfold sufN; rw [if_neg h0]
    have e3 : sufN rs (y :: w) = lonN rs (y :: w) := by unfold sufN; rw [e1, if_neg h0]
    rw [e3]
    rcases lonN_below rs w y with e | e
    · rw [e, ← e2]
      by_cases g : sufN rs w + 1 ≤ w.length
      · rw [lastN_cons g]
        exact ⟨.inl rfl, fun q => by omega⟩
      · rw [lastN_all (w := y :: w) (by rw [List.length_cons]; omega)]
        exact ⟨.inr rfl, fun _ => rfl⟩
    · rw [e, lastN_all (w := y :: w) (by rw [List.length_cons]; omega)]
      exact ⟨.inr rfl, fun _ => rfl⟩
end Kb
namespace Kb
open PySem PySem.Spec PyProof.Rows L2 TL
/-! ### drawn rules over a, b and c -/
def abc (l : List Nat) : Prop := l = [97] ∨ l = [98] ∨ l = [99]
def GenR (t : List Nat) : Prop := ∃ L : List (List Nat), L ≠ [] ∧ L.length ≤ 4 ∧ (∀ l ∈ L, abc l) ∧ (t = joinL [46] L ∨ t = 42 :: 46 :: joinL [46] L ∨ (2 ≤ L.length ∧ t = 33 :: joinL [46] L))
theorem abc_wlab {l : List Nat} (h : abc l) : wlab l = true := by rcases h with rfl | rfl | rfl <;> decide
theorem abc_lab {l : List Nat} (h : abc l) : labB l = true := (wlab_lab (abc_wlab h)).1
theorem abc_len {l : List Nat} (h : abc l) : l.length ≤ 1 := by rcases h with rfl | rfl | rfl <;> decide
theorem abc_head {L : List (List Nat)} (hL : L ≠ []) (h : ∀ l ∈ L, abc l) : ∃ a r, joinL [46] L = a :: r ∧ a ≠ 33 ∧ a ≠ 42 := by
  obtain ⟨l, r, rfl⟩ := List.exists_cons_of_ne_nil hL
  have h1 := h l (List.mem_cons_self ..)
  have e : ∀ z, ∃ s, joinL [46] ([z] :: r) = z :: s := fun z => by
    cases r with
    | nil => exact ⟨[], rfl⟩
    | cons q r => exact ⟨_, rfl⟩
  rcases h1 with rfl | rfl | rfl
  · obtain ⟨s, e⟩ := e 97; exact ⟨97, s, e, by decide, by decide⟩
  · obtain ⟨s, e⟩ := e 98; exact ⟨98, s, e, by decide, by decide⟩
  · obtain ⟨s, e⟩ := e 99; exact ⟨99, s, e, by decide, by decide⟩
theorem abc_sp1 {L : List (List Nat)} (hL : L ≠ []) (h : ∀ l ∈ L, abc l) : sp1 46 (joinL [46] L) = L := sp1_joinL hL fun l hl => dot_free (abc_lab (h l hl))
theorem GenR.cases {t : List Nat} (h : GenR t) : ∃ L : List (List Nat), L ≠ [] ∧ L.length ≤ 4 ∧ (∀ l ∈ L, abc l) ∧ ((excT t = false ∧ t = joinL [46] L ∧ patL t = L) ∨ (excT t = false ∧ t = 42 :: 46 :: joinL [46] L ∧ patL t = [42] :: L) ∨ (excT t = true ∧ 2 ≤ L.length ∧ t = 33 :: joinL [46] L ∧ patL t = L)) := by
  obtain ⟨L, h1, h2, h3, h4⟩ := h
  refine ⟨L, h1, h2, h3, ?_⟩
  rcases h4 with rfl | rfl | ⟨h4, rfl⟩
  · left
    obtain ⟨a, r, e, e1, e2⟩ := abc_head h1 h3
    have hx : excT (joinL [46] L) = false := by unfold excT; rw [e]; exact decide_eq_false (by simpa using e1)
    refine ⟨hx, rfl, ?_⟩
    unfold patL patT
    rw [hx]
    exact abc_sp1 h1 h3
  · right; left
    refine ⟨rfl, rfl, ?_⟩
    show sp1 46 ([42] ++ 46 :: joinL [46] L) = _
    rw [sp1_app, abc_sp1 h1 h3]
    rfl
  · right; right
    refine ⟨rfl, h4, rfl, ?_⟩
    exact abc_sp1 h1 h3
theorem GenR.rule {t : List Nat} (h : GenR t) : ruleB t = true := by
  obtain ⟨L, h1, h2, h3, h4⟩ := h.cases
  have all : L.all labB = true := List.all_eq_true.mpr fun l hl => abc_lab (h3 l hl)
  unfold ruleB
  rcases h4 with ⟨hx, e, hp⟩ | ⟨hx, e, hp⟩ | ⟨hx, h5, e, hp⟩
  · rw [hx, e]
    obtain ⟨a, r, ea, e1, e2⟩ := abc_head h1 h3
    have : [42, 46].isPrefixOf (joinL [46] L) = false := by
      rw [ea]
      show ((42 == a) && _) = false
      rw [beq_eq_false_iff_ne.mpr (Ne.symm e2), Bool.false_and]
    rw [this]
    simp only [Bool.false_eq_true, if_false]
    rw [abc_sp1 h1 h3]
    exact all
  · rw [hx, e]
    have : [42, 46].isPrefixOf (42 :: 46 :: joinL [46] L) = true := by simp [List.isPrefixOf]
    rw [this]
    simp only [Bool.false_eq_true, if_false, if_true, List.drop_succ_cons, List.drop_zero]
    rw [abc_sp1 h1 h3]
    exact all
  · rw [hx, e, if_pos rfl]
    show (decide (1 < (sp1 46 (joinL [46] L)).length) && (sp1 46 (joinL [46] L)).all labB) = true
    rw [abc_sp1 h1 h3, all, decide_eq_true (by omega)]
    rfl
theorem GenR.exc {t : List Nat} (h : GenR t) (hx : excT t = true) : (patL t).head? ≠ some [42] ∧ ∀ l ∈ patL t, abc l := by
  obtain ⟨L, h1, h2, h3, h4⟩ := h.cases
  rcases h4 with ⟨e0, e, hp⟩ | ⟨e0, e, hp⟩ | ⟨e0, h5, e, hp⟩
  · rw [e0] at hx; cases hx
  · rw [e0] at hx; cases hx
  · rw [hp]
    refine ⟨fun q => ?_, h3⟩
    have := h3 [42] (List.mem_of_mem_head? q)
    rcases this with q | q | q <;> simp at q
theorem GenR.head {t : List Nat} (h : GenR t) : t.head? ≠ some 122 := by
  obtain ⟨L, h1, h2, h3, rfl | rfl | ⟨_, rfl⟩⟩ := h
  · obtain ⟨l, r, rfl⟩ := List.exists_cons_of_ne_nil h1
    have hq := h3 l (List.mem_cons_self ..)
    have e : ∀ z, (joinL [46] ([z] :: r)).head? = some z := fun z => by cases r <;> rfl
    rcases hq with rfl | rfl | rfl <;> rw [e] <;> decide
  · simp
  · simp
theorem GenR.len {t : List Nat} (h : GenR t) : t.length ≤ 12 := by
  obtain ⟨L, h1, h2, h3, h4⟩ := h
  have := joinL_len (c := 46) (B := 1) L fun l hl => abc_len (h3 l hl)
  rcases h4 with rfl | rfl | ⟨_, rfl⟩
  · omega
  · simp only [List.length_cons]; omega
  · simp only [List.length_cons]; omega
end Kb
namespace Kb
open PySem PySem.Spec PyProof.Rows L2
theorem Same.seqT {K : PySem.W.Frag} {a : Addr} {H H' : Hp} {xs : List V} (k : Same H H') (h : SqT K H a xs) : SqT K H' a xs := by
  rcases h with (h | ⟨o, h⟩) | h
  · exact .inl (.inl (k _ _ h))
  · exact .inl (.inr ⟨o, k _ _ h⟩)
  · exact .inr h
theorem Keep.seqT {K : PySem.W.Frag} {d a : Addr} {H H' : Hp} {xs : List V} (k : Keep d H H') (n : a ≠ d) (h : SqT K H a xs) : SqT K H' a xs := by
  rcases h with (h | ⟨o, h⟩) | h
  · exact .inl (.inl (k _ _ h n))
  · exact .inl (.inr ⟨o, k _ _ h n⟩)
  · exact .inr h
end Kb
namespace Kb
open PySem PySem.Spec PyProof.Rows L2 TL PySem.StrLaws Builtin.Str
theorem cutS_from (z : Str) {i : Int} (h : 0 ≤ i) : tl (cutS z (some i) none) = (tl z).drop i.toNat := by
  obtain ⟨k, rfl⟩ : ∃ k : Nat, i = (k : Int) := ⟨i.toNat, by omega⟩
  show ((tl z).drop (HT.sIx z.length 0 (some (k : Int)))).take (HT.sIx z.length z.length none - HT.sIx z.length 0 (some (k : Int))) = _
  rw [HT.sIx_none, HT.sIx_nat, Int.toNat_natCast, len_tl]
  rw [List.take_of_length_le (by rw [List.length_drop] <;> omega)]
  rcases Nat.le_total k (tl z).length with g | g
  · rw [Nat.min_eq_left g]
  · rw [Nat.min_eq_right g, List.drop_of_length_le (Nat.le_refl _), List.drop_of_length_le g]
end Kb
namespace Kb
open PySem PySem.Spec PyProof.Rows L2 TL
def RulesOK (rs : List Str) : Prop := rs.Nodup ∧ ∀ r ∈ rs, ruleB (tl r) = true ∧ r.length ≤ 1000
end Kb
namespace Kb
open PySem PySem.Spec PyProof.Rows L2 TL
theorem abc_at {r : Int} (h0 : 0 ≤ r) (h1 : r < 3) : ∃ c : Nat, atI ("abc" : Str).cps.toList r = some c ∧ abc (tl (⟨#[c]⟩ : Str)) := by
  rcases (by omega : r = 0 ∨ r = 1 ∨ r = 2) with rfl | rfl | rfl
  · exact ⟨97, by decide +kernel, .inl rfl⟩
  · exact ⟨98, by decide +kernel, .inr (.inl rfl)⟩
  · exact ⟨99, by decide +kernel, .inr (.inr rfl)⟩
theorem words_join (W : List Str) : tl (Txt.join ("." : Str) W) = joinL [46] (W.map tl) := by rw [join_tl, tl_dot]
theorem words_len {W : List Str} {B : Nat} (h : ∀ x ∈ W, (tl x).length ≤ B) : (W.map (·.length)).sum ≤ W.length * B :=
  PySem.StrLaws.sumLen_le (B := B) W fun w hw => by rw [len_tl]; exact h w hw
end Kb
namespace Kb
open PySem PySem.Spec PyProof.Rows L2 TL
theorem Keep.newer {d L : Addr} {H H' : Hp} (k : Keep d H H') (n : L ≠ d) (h : H' L = none) : H L = none := by
  cases e : H L with
  | none => rfl
  | some o => rw [k _ _ e n] at h; cases h
theorem Same.newer {L : Addr} {H H' : Hp} (k : Same H H') (h : H' L = none) : H L = none := by
  cases e : H L with
  | none => rfl
  | some o => rw [k _ _ e] at h; cases h
theorem in_strs {r : Str} {L : List Str} : inV (.str r) (L.map V.str) = decide (r ∈ L) := by
  unfold inV
  rw [Bool.eq_iff_iff, List.any_eq_true, decide_eq_true_eq]
  constructor
  · rintro ⟨v, hv, q⟩
    obtain ⟨x, hx, rfl⟩ := List.mem_map.mp hv
    have : x = r := by simpa [eqV] using q
    exact this ▸ hx
  · intro h
    exact ⟨.str r, List.mem_map.mpr ⟨r, h, rfl⟩, by simp [eqV]⟩
theorem flat_strs (L : List Str) : (L.map V.str).all flatV = true := by
  rw [List.all_eq_true]
  intro v hv
  obtain ⟨x, _, rfl⟩ := List.mem_map.mp hv
  rfl
end Kb
namespace Kb
open PySem PySem.Spec PyProof.Rows L2 TL
/-! ### hosts of small labels -/
theorem host_facts {w : List (List Nat)} {t : Str} (hw : w ≠ []) (hl : w.length ≤ 10) (ha : ∀ l ∈ w, wlab l = true) (e : tl t = joinL [46] w) :
    hostB (tl t) = true ∧ addrB (tl t) = false ∧ sp1 46 (tl t) = w ∧ t.length ≤ 50 := by
  have h : HostW 10 t := ⟨w, hw, hl, ha, e⟩
  have h1 := h.host (Nat.le_refl 10)
  have h2 := h.len
  refine ⟨h1.1, ?_, by rw [e, sp1_joinL hw fun p hp => dot_free (wlab_lab (ha p hp)).1], by omega⟩
  unfold addrB
  rw [h1.2, Bool.and_false]
theorem fit_last {w : List (List Nat)} {k : Nat} {h d : List Nat} (e1 : sp1 46 h = w) (e2 : sp1 46 d = lastN k w) (hk : k ≤ w.length) (ha : addrB h = false) : fitB h d = true := by
  have hd : (sp1 46 d).length = k := by rw [e2, lastN_len, Nat.min_eq_left hk]
  have := (sp1_suffix 46 h d).mp ⟨by rw [hd, e1]; exact hk, by rw [e1, hd, e2]; rfl⟩
  unfold fitB
  rw [ha]
  rcases this with q | q
  · rw [decide_eq_true q]; rfl
  · rw [List.isSuffixOf_iff_suffix.mpr q]; simp
theorem famL_len {rs w : List (List Nat)} (hr : ∀ t ∈ rs, ruleB t = true) (hw : w ≠ []) : famL rs w = lastN (famL rs w).length w ∧ 1 ≤ (famL rs w).length ∧ (famL rs w).length ≤ w.length := by
  have h0 : 0 < w.length := List.length_pos_iff.mpr hw
  have := sufN_ge hr hw
  have e := famL_eq hr hw
  have el : (famL rs w).length = min (sufN rs w + 1) w.length := by rw [e, lastN_len]
  refine ⟨?_, by omega, by omega⟩
  rw [el, lastN_min]; exact e
theorem lastN_ne {α : Type} {k : Nat} {w : List α} (h1 : 1 ≤ k) (h2 : w ≠ []) : lastN k w ≠ [] := fun q => by
  have := lastN_len k w
  have h0 : 0 < w.length := List.length_pos_iff.mpr h2
  rw [q, List.length_nil] at this
  omega
theorem lastN_map {α β : Type} (f : α → β) (k : Nat) (w : List α) : (lastN k w).map f = lastN k (w.map f) := by
  unfold lastN; rw [List.map_drop, List.length_map]
/-- a rule that asks a label before the host -/
theorem zrule {w : List (List Nat)} {t : List Nat} {rs : List (List Nat)} (hw : w ≠ []) (ha : ∀ l ∈ w, abc l) (e : t = 122 :: 46 :: joinL [46] w) (u : List (List Nat)) (hu : u.length ≤ w.length) :
    ruleB t = true ∧ sufN (rs ++ [t]) u = sufN rs u := by
  have hx : excT t = false := by rw [e]; rfl
  have hp : patL t = [122] :: w := by
    unfold patL patT
    rw [hx, e]
    show sp1 46 ([122] ++ 46 :: joinL [46] w) = _
    rw [sp1_app, abc_sp1 hw ha]; rfl
  constructor
  · unfold ruleB
    rw [hx, e]
    have : [42, 46].isPrefixOf (122 :: 46 :: joinL [46] w) = false := rfl
    rw [this]
    simp only [Bool.false_eq_true, if_false]
    show (sp1 46 ([122] ++ 46 :: joinL [46] w)).all labB = true
    rw [sp1_app, abc_sp1 hw ha, List.all_append, Bool.and_eq_true]
    exact ⟨by decide +kernel, List.all_eq_true.mpr fun l hl => abc_lab (ha l hl)⟩
  · refine sufN_snoc ?_
    rw [hp]
    unfold mtL
    rw [decide_eq_false (by rw [List.length_cons]; omega)]; rfl
theorem below_ok {rs : List (List Nat)} (h : ∀ t ∈ rs, GenR t) : ∀ t ∈ rs, excT t = true → (patL t).head? ≠ some [42] ∧ [121] ∉ patL t := fun t ht hx => by
  obtain ⟨h1, h2⟩ := (h t ht).exc hx
  exact ⟨h1, fun q => by rcases h2 _ q with r | r | r <;> simp at r⟩
end Kb

namespace Kb
open PySem PySem.Spec PyProof.Rows L2
/-! ### own errors with one field -/
def spInit (K : PySem.W.Frag) (C : Addr) (f : Str) : Sp := fun vs H Q _ => ∃ (a : Addr) (v : V), vs = [.ref a, v] ∧ H a = some (exo a C none) ∧ OexC K C ∧ PySem.W.findIn K (.ref C) f = some none ∧
  ∀ dx, H dx = none → dx ≠ a → Q .non (L2.upd (L2.upd H dx (exd dx [(f, v)])) a (exo a C (some dx)))
/-- what the top has written of such a class -/
structure Err (K : PySem.W.Frag) (mg : Str → Option Value) (cn f : Str) (C : Addr) : Prop where
  T : OexC K C
  X : XfC K C
  g : mg cn = some (.ref C)
  no : PySem.W.findIn K (.ref C) f = some none
  te : PySem.W.exmOne K (.ref C) (.ref C) = some true
  ini : ∃ (fI : Addr) (fd : FuncData), PySem.W.findIn K (.ref C) "__init__" = some (some (.ref fI)) ∧ PySem.W.typeIn K (.ref fI) = some (.type "function") ∧ Binds K fd ["self", f] [] ∧
    ∀ (P : Program) (w : World) (base : Heap), FnOk P w K mg base CX0 1 fI fd ["self", f] (spInit K C f)
/-- C(e) -/
def tErr (C : Addr) (f : Str) (ta : TA) : L2.St → Hp → XK → Prop := fun σ H Q => ta σ H fun vs H1 => ∃ v, vs = [v] ∧ ∀ d, H1 d = none → Q (.ref C) (some d) (L2.upd H1 d (.xd [(f, v)]))
def taMono (t : TA) : TA := fun σ H Q => ∃ Q0 : List V → Hp → Prop, t σ H Q0 ∧ ∀ x H1, Q0 x H1 → Q x H1
theorem pa_mono {X : Cx} {es : List Expr} {t : TA} (h : PA X es t) : PA X es (taMono t) :=
  ⟨fun pos pins s σ H Q I ⟨Q0, h0, m⟩ => thn (h.run pos pins s σ H Q0 I h0) fun us s1 ⟨vs, H1, I1, r1, q1⟩ => ⟨vs, H1, I1, r1, m _ _ q1⟩⟩
theorem upd_del {H : Hp} {a d : Addr} {o1 o2 o3 o4 : HO} (ha : H a = none) (hd : d ≠ a) : L2.upd (del (L2.upd (L2.upd (L2.upd H a o1) d o2) a o3) a) d o4 = L2.upd H d o4 := by
  funext b
  by_cases h1 : b = d
  · subst h1; rw [upd_same, upd_same]
  · rw [upd_ne h1, upd_ne h1]
    by_cases h2 : b = a
    · subst h2; rw [del_same, ha]
    · rw [del_ne h2, upd_ne h2, upd_ne h1, upd_ne h2]
section
variable {X : Cx}
theorem pmk_err {cn f : Str} {C : Addr} {e : Expr} {ta : TA} {p pos : Pos} {k : Nat} (T : Err X.K X.mg cn f C) (hr : Room k X.A) (hk : 2 ≤ k) (hx : Passes CX0 X (fun _ _ _ => False)) (ha : PA X [e] ta) (hg : Gl X cn)
    (hdb : (cn == ("__debug__" : Str)) = false := by decide) (he : starEach (e :: []) X.env = (false, eval e X.env) :: starEach [] X.env := by rfl) (hpl : (backTo pos (starEach [] X.env)).any (·.1) = false := by rfl) :
    PMk X (.Call (.Name cn p) [e] [] pos) (tErr C f ta) := by
  intro pins s σ H Q I h
  obtain ⟨fI, fd, iC, tI, hb, F⟩ := T.ini
  refine pmk_oex (dvs := []) (ds := []) T.T iC tI (F X.prog X.w X.base) (hr.mono hk) hb .nil hx hg T.g (pa_mono ha) hdb he hpl pins s σ H Q I ?_
  refine ⟨_, h, ?_⟩
  rintro vs H1 ⟨v, rfl, hq⟩
  refine ⟨by show 1 ≤ 1000; decide, fun a hn => ⟨a, v, rfl, upd_same, T.T, T.no, fun dx hdx hne => ⟨rfl, dx, [(f, v)], upd_same, ?_, ?_, ?_⟩⟩⟩
  · rw [upd_ne hne, upd_same]
  · rw [upd_ne hne] at hdx; exact hdx
  · rw [upd_ne hne] at hdx
    rw [upd_del hn hne]
    exact hq dx hdx
/-- raise C(e) -/
def tRaise (C : Addr) (f : Str) (W : WX) (ta : TA) : TS := fun _ σ H => tErr C f ta σ H fun cls d H' => W cls d σ H'
theorem ps_raiseE {cn f : Str} {C : Addr} {e : Expr} {ta : TA} {W : WX} {p pos pos2 : Pos} {k : Nat} (hc : X.calm = true) (T : Err X.K X.mg cn f C) (hr : Room k X.A) (hk : 2 ≤ k) (hx : Passes CX0 X (fun _ _ _ => False)) (tk : Takes X W) (ha : PA X [e] ta) (hg : Gl X cn)
    (hdb : (cn == ("__debug__" : Str)) = false := by decide) (he : starEach (e :: []) X.env = (false, eval e X.env) :: starEach [] X.env := by rfl) (hpl : (backTo pos (starEach [] X.env)).any (·.1) = false := by rfl) :
    PS X (.Raise (some (.Call (.Name cn p) [e] [] pos)) none pos2) (tRaise C f W ta) := ps_raise hc tk (pmk_err T hr hk hx ha hg hdb he hpl)
theorem pe_cX {W : WX} {j k : Nat} {x : Str} {ps : List Str} {sp : Sp} {p pos : Pos} {e : Expr} {es : List Expr} {t : TA} (c : Cal X.prog X.w X.K X.mg X.base (L2.CX X.prog X.w) j x ps sp) (hr : Room k X.A) (hjk : j ≤ k) (hg : Gl X x) (tk : Takes X W)
    (ha : PA X (e :: es) t) (hdb : (x == ("__debug__" : Str)) = false := by decide) (he : starEach (e :: es) X.env = (false, eval e X.env) :: starEach es X.env := by rfl) (hpl : (backTo pos (starEach es X.env)).any (·.1) = false := by rfl) :
    PE X (.Call (.Name x p) (e :: es) [] pos) (tCallS sp (WE W) t) := by
  obtain ⟨f, fd, F, m, kp, b⟩ := c
  exact pe_callS F (hr.mono hjk) hg m kp b (fun σ => passAt tk σ) ha hdb he hpl
end
section
variable {P : Program} {w : World} {K : PySem.W.Frag} {mg : Str → Option Value} {base : Heap}
theorem Df.okX {x : Str} {st : Stmt} {N ps : List Str} {k : Nat} {sp : Sp} (D : Df K mg x st ps) (S : FnScope N ps (defScope st)) (len : ∀ vs H Q E, sp vs H Q E → vs.length = ps.length)
    (hbody : ∀ (f : Addr) (cdv : Value) (A : Around) (outer : List Env) (s : Shared) (H : Hp) (vs : List V) (Q : VK) (E : XK), Room k (A.deeper (envOfC x (defScope st) s.heap.objs.size f cdv)) → sp vs H Q E →
      ∃ t, PSs (cxOf (L2.CX P w) P w K mg base N x (defScope st) f cdv A outer s H E) (defBody st) t ∧ t { nx := fun _ H' => Q .non H', rt := Q } (start N vs) H) : Cal P w K mg base (L2.CX P w) (k + 1) x ps sp := by
  obtain ⟨f, fd, F, m, b⟩ := D
  exact ⟨f, fd, F.okX S len (hbody f), m, F.kp, .all b⟩
end
/-! ### such a class, from the written part -/
theorem exm_own {K : PySem.W.Frag} {S : Addr} (h1 : PySem.W.subIn K (.ref S) (.type "BaseException") = some true) (h2 : PySem.W.isClsIn K S = true) (h3 : PySem.W.typeIn K (.ref S) = some (.type "type")) (h4 : PySem.W.subIn K (.ref S) (.ref S) = some true) :
    PySem.W.exmOne K (.ref S) (.ref S) = some true := by
  unfold PySem.W.isClsIn at h2
  unfold PySem.W.exmOne
  simp only [h1, h2, h3, h4]
  unfold PySem.W.kitCls
  simp [h2, h3, h4]
theorem Err.mk' {K : PySem.W.Frag} {mg : Str → Option Value} {h : Heap} {cn f q0 : Str} {C fI : Addr} {st : Stmt} {nm q : Str} {N : Addr} {bs bm : List Value} {sn : List Str} {sub : List Value} {ab : Bool} {col : Option Bool} {dd : Option Addr} {m0 m1 m2 m3 m5 : Option Value}
    {oc : Value} {od an : Option Addr} {sl : Array (Option Value)} {kV doc pm cd ct : Value} (X : K.In h) (G : h.Ns PySem.mainGlobals mg)
    (b : ∀ (kV doc pm : Value) (an : Option Addr) (cdv ct : Value) (us : List Value), us.length = (["self", f] : List Str).length → bindArgs (PySem.W.fnOf "__init__" q0 (defArgs st) (defBody st) (defScope st) .none kV doc pm an cdv ct) ⟨us, []⟩ = pure ((["self", f] : List Str).zip us))
    (ok : ∀ {fI : Addr} {fd : FuncData} (P : Program) (w : World) (base : Heap), Fun K "__init__" q0 st fI fd → FnOk P w K mg base CX0 1 fI fd ["self", f] (spInit K C f))
    (aC : PySem.W.nsIn K PySem.mainGlobals cn = some (some (.ref C)))
    (xL : K.lookup C = some (excClassObj nm q C N bs bm true sn sub ab col dd m0 m1 m2 m3 m5 "ValueError.__new__")) (rv : PySem.HandSPX.refsVE bm = true)
    (sa : PySem.W.findIn K (.ref C) "__setattr__" = some (some (.builtin "object.__setattr__"))) (ga : PySem.W.findIn K (.ref C) "__getattribute__" = some (some (.builtin "BaseException.__getattribute__"))) (gg : PySem.W.findIn K (.ref C) "__getattr__" = some none) (nb : PySem.W.findIn K (.ref C) f = some none)
    (a1 : PySem.W.findIn K (.ref C) "__init__" = some (some (.ref fI))) (t1 : PySem.W.typeIn K (.ref fI) = some (.type "function"))
    (l1 : K.lookup fI = some ⟨oc, od, .func (PySem.W.fnOf "__init__" q0 (defArgs st) (defBody st) (defScope st) .none kV doc pm an cd ct), sl⟩) (c1 : PySem.W.codeIn K cd q0 = true) (k1 : PySem.W.keepIn K (.ref fI) = true)
    (kC : PySem.W.keepIn K (.ref C) = true) (eC : PySem.W.subIn K (.ref C) (.type "BaseException") = some true) (tC : PySem.W.typeIn K (.ref C) = some (.type "type")) (hC : PySem.W.hasDictIn K C = true) (iC : PySem.W.isClsIn K C = true) (sC : PySem.W.subIn K (.ref C) (.ref C) = some true) : Err K mg cn f C where
  T := ⟨⟨nm, q, N, bs, bm, sn, sub, ab, col, dd, m0, m1, m2, m3, m5, xL, rv⟩, sa, eC, tC, kC⟩
  X := ⟨ga, gg, eC, hC⟩
  g := PySem.W.mg_of X G aC
  no := nb
  te := exm_own eC iC tC sC
  ini := ⟨fI, _, a1, t1, .all (b kV doc pm an cd ct), fun P w base => ok P w base (fun_mk l1 c1 k1)⟩
end Kb
namespace Kb
open PySem PySem.Spec PyProof.Rows L2
/-- nothing is let out -/
theorem passF {P : Program} {w : World} {X : Cx} : Passes (L2.CX P w) X (fun _ _ _ => False) := fun _ _ _ _ _ _ _ h => by
  obtain ⟨_, _, _, _, _, _, _, _, _, _, _, _, q⟩ := h
  exact q.elim
end Kb
namespace Kb
open PySem PySem.Spec PyProof.Rows L2
/-- a tuple of the written part -/
theorem sqT_of_lookup {K : PySem.W.Frag} {a : Addr} {dd : Option Addr} {its : Array Value} {n : Nat} {sl : Array (Option Value)} {xs : List V} (l : K.lookup a = some ⟨.type "tuple", dd, .seq its n, sl⟩) (z : its.size ≤ sizeLine) (v : Vals xs its.toList) : ∀ H : Hp, SqT K H a xs :=
  fun _ => .inr ⟨_, its, n, l, rfl, rfl, z, v⟩
theorem pe_gt {X : Cx} {x : Str} {pos : Pos} {a : Addr} (hg : Gl X x) (h : X.mg x = some (.ref a)) (hd : (x == ("__debug__" : Str)) = false := by decide) : PE X (.Name x pos) (tC (.ref a)) := pe_glob hg h rfl hd
end Kb

namespace Kb
open PySem PySem.Spec PyProof.Rows L2
/-! ### defs that are called while no repr is under way -/
structure FnG (P : Program) (w : World) (K : PySem.W.Frag) (mg : Str → Option Value) (base : Heap) (CX : CXT) (k : Nat) (f : Addr) (fd : FuncData) (ps : List Str) (sp : Sp) : Prop where
  len : ∀ vs H Q E, sp vs H Q E → vs.length = ps.length
  run : ∀ (A : Around) (outer : List Env) (s : Shared) (H : Hp) (args : Args) (us : List Value) (vs : List V) (Q : VK) (E : XK), A.guards = some [] → Room k A → Env0 P w K mg base A outer s H → BindsTo s fd args (ps.zip us) → Vals vs us → sp vs H Q E →
    codeAny (model P w) A (.call (.ref f) args) (CR CX outer P w H s Q E) s
section
variable {P : Program} {w : World} {K : PySem.W.Frag} {mg : Str → Option Value} {base : Heap} {CX : CXT}
theorem FnG.mono {j k : Nat} {f : Addr} {fd : FuncData} {ps : List Str} {sp : Sp} (F : FnG P w K mg base CX j f fd ps sp) (h : j ≤ k) : FnG P w K mg base CX k f fd ps sp :=
  ⟨F.len, fun A outer s H args us vs Q E hg hr => F.run A outer s H args us vs Q E hg (hr.mono h)⟩
theorem fnG_of {k : Nat} {f : Addr} {x qual : Str} {st : Stmt} {fd : FuncData} {N ps : List Str} {sp : Sp} (F : Fun K x qual st f fd) (S : FnScope N ps (defScope st)) (len : ∀ vs H Q E, sp vs H Q E → vs.length = ps.length)
    (hbody : ∀ (cdv : Value) (A : Around) (outer : List Env) (s : Shared) (H : Hp) (vs : List V) (Q : VK) (E : XK), A.guards = some [] → Room k (A.deeper (envOfC qual (defScope st) s.heap.objs.size f cdv)) → sp vs H Q E →
      ∃ t, PSs (cxOf CX P w K mg base N qual (defScope st) f cdv A outer s H E) (defBody st) t ∧ t { nx := fun _ H' => Q .non H', rt := Q } (start N vs) H) : FnG P w K mg base CX (k + 1) f fd ps sp := by
  obtain ⟨oc, od, kV, doc, pm, an, cdv, ct, osl, rfl, lk, hcd⟩ := F.ex
  refine ⟨len, fun A outer s H args us vs Q E hgd hr e0 hb r hsp => ?_⟩
  have KX : K.In s.heap := e0.mod.kin.keeps fun b o e => (e0.bs b o e).1
  have hkind : ∀ y ∈ ps.zip us, (defScope st).names.lookup y.1 = some .local ∨ ((defScope st).names.lookup y.1 = some .cell ∧ ((cellsFrom (s.heap.objs.size + 1) (defScope st).names []).lookup y.1).isSome = true) := fun ⟨n, v⟩ hy =>
    (S.par n (List.of_mem_zip hy).1).elim .inl fun q => .inr ⟨q, PySem.W.cellsFrom_some _ _ _ (.inl q)⟩
  refine codeAny_call_function hr.depth (KX _ _ lk) rfl S.co S.gen rfl (PySem.W.codeRec_of KX hcd) (hb _ _ _ _ (wpAny_newFunctionEnv_cells S.kind hkind fun env he s1 x => ?_))
  subst he
  refine ⟨(e0.mod.nolimit.keeps fun b o e => (e0.bs b o e).1).keeps x.toInCall.keep, codeAny_func ?_⟩
  obtain ⟨t, ht, hq⟩ := hbody cdv A outer s H vs Q E hgd (hr.deeper _) hsp
  refine wpAny_mono (ht.run [] s1 (start N vs) H _ (inv_start S hr.hd e0 (len _ _ _ _ hsp) r x) hq) (fun fl s' hs => ?_) fun e s' hs => hs
  cases fl with
  | ret u => obtain ⟨v, σ', H', J, rv, q⟩ := hs; exact ⟨v, H', J.os, J.bare, J.base, J.hok, rv, q⟩
  | next => obtain ⟨σ', H', J, q⟩ := hs; exact ⟨V.non, H', J.os, J.bare, J.base, J.hok, rfl, q⟩
  | brk => obtain ⟨_, _, _, q⟩ := hs; exact q.elim
  | cont => obtain ⟨_, _, _, q⟩ := hs; exact q.elim
end
/-! ### repr -/
section
variable {X : Cx}
/-- repr of what is no dict -/
def rRepr (K : PySem.W.Frag) : List V → Hp → VK → Prop := fun xs H Q => ∃ x d, xs = [x] ∧ Dp K H x d ∧ d.showable = true ∧ d.hasDict = false ∧ d.shown.length ≤ sizeLine ∧ d.depth ≤ 64 ∧ Q (.str d.shown) H
theorem call_reprD (hu : X.A.units + 65 < cLine) (hg : X.A.guards = some []) : CallR X (.builtin "repr") (rRepr X.K) := by
  intro pins s σ H xs us Q I r h
  obtain ⟨x, d, rfl, hd, hs, hn, hz, hp, q⟩ := h
  obtain ⟨u, rfl, r1⟩ := vals1 r
  obtain ⟨as, rd⟩ := Dp.reads I d x u hd r1
  have ref : ∀ a : Addr, u = .ref a → wpAny (model X.prog X.w) X.A (call (Value.builtin "repr") [u]) (EP X pins σ Q) X.xe s := fun a e => by
    subst e
    exact repr_of_reads' rd hs (fun q => by rw [hn] at q; cases q) hg (by omega) (fun _ _ e => e) (fun h' t tk k => ⟨.str d.shown, H, I.kept (t' := tk) k, ⟨t, rfl⟩, q⟩) hz
  cases rd with
  | none => simp only [PyData.shown] at q; exact PySem.P.repr_of_none ⟨.str "None", H, I.tok _, ⟨_, rfl⟩, q⟩
  | bool b => simp only [PyData.shown] at q; exact PySem.P.repr_of_bool ⟨.str (if b then "True" else "False"), H, I.tok _, ⟨_, rfl⟩, q⟩
  | int i t => simp only [PyData.shown] at q; exact PySem.P.repr_of_int (by simpa [PyData.showable] using hs) ⟨.str (toString i), H, I.tok _, ⟨_, rfl⟩, q⟩
  | str y t => simp only [PyData.shown] at q; exact PySem.P.repr_of_str ⟨.str (reprText y), H, I.tok _, ⟨_, rfl⟩, q⟩ (by simpa only [PyData.shown] using hz)
  | list h1 h2 h3 h4 => exact ref _ rfl
  | tuple h1 h2 h3 h4 => exact ref _ rfl
  | dict h1 h2 h3 h4 h5 => exact ref _ rfl
end
end Kb
namespace Kb
open PySem PySem.Spec PyProof.Rows L2
/-! ### the law's call, by such a promise: nothing but the script is tracked -/
theorem law_callG {P : Program} {w : World} {K : PySem.W.Frag} {mg mb : Str → Option Value} {CX : CXT} {k : Nat} {fa a : Addr} {fd : FuncData} {x : Str} {sp : Sp} {s₁ : Shared} {vs : List Value} {ns : List Int}
    (KX : K.In s₁.heap) (hns : s₁.heap.Ns PySem.mainGlobals mg) (hb : s₁.heap.Ns builtinsNs mb) (hbb : ∀ x : Str, x ≠ "__name__" → mb x = bootBuiltins x) (hlim : s₁.heap.NoLimit) (hg : s₁.gens = #[])
    (ha : s₁.heap.get? a = some { cls := .type "list", data := .seq vs.toArray }) (hi : IntsAre vs ns) (hl : ns.length ≤ sizeLine) (hr : Room k callerA)
    (F : ∀ base : Heap, K.In base → base.Ns PySem.mainGlobals mg → FnG P w K mg base CX k fa fd [x] sp) (hbind : ∀ (s : Shared) (u : Value), BindsTo s fd ⟨[u], []⟩ [(x, u)])
    (hsp : ∀ H : Hp, Only H → SqL K H a (ns.map V.int) → sp [.ref a] H (fun v _ => v = .bl true) fun _ _ _ => False)
    (hCX : ∀ H e s', CX [] H s₁ (fun _ _ _ => False) e s' → False) :
    codeAny (model P w) callerA (.call (.ref fa) ⟨[.ref a], []⟩) (fun r s' => r = .ok (.ret (.bool true)) ∧ OldK s₁.heap s'.heap ∧ s'.os = s₁.os ∧ AllBare s'.gens) s₁ := by
  have rv := vals_ints hi
  have core : ∀ H : Hp, Only H → SqL K H a (ns.map V.int) → HOk P w H s₁.heap → (∀ b, H b ≠ none → b = a) → (H a ≠ none → K.lookup a = none) →
      codeAny (model P w) callerA (.call (.ref fa) ⟨[.ref a], []⟩) (fun r s' => r = .ok (.ret (.bool true)) ∧ OldK s₁.heap s'.heap ∧ s'.os = s₁.os ∧ AllBare s'.gens) s₁ := by
    intro H hO hS hok hA hK
    have one : ∀ b, b ≠ a → H b = none := fun b n => Classical.byContradiction fun q => n (hA b q)
    have dicts : ∀ {b : Addr} {o : Obj} {es : Array DictEntry} {ep : Nat}, s₁.heap.get? b = some o → o.data = .dict es ep → b ≠ a := fun {b o es ep} e d q => by
      subst q
      rw [ha] at e
      cases e
      cases (show Data.seq vs.toArray _ = Data.dict es ep from d)
    have spaces : ∀ {b : Addr} {m : Str → Option Value}, s₁.heap.Ns b m → (hidT s₁.heap H).Ns b m := fun ⟨o, es, ep, e, d, r⟩ => ⟨o, es, ep, hidT_get e (one _ (dicts e d)), d, r⟩
    have kin : K.In (hidT s₁.heap H) := fun b o e => hidT_get (KX b o e) (Classical.byContradiction fun q => by
      have e2 : b = a := hA b q
      subst e2
      rw [hK q] at e
      cases e)
    obtain ⟨mc, l1, l2⟩ := hlim
    refine codeAny_mono ((F _ kin (spaces hns)).run callerA [] s₁ H ⟨[.ref a], []⟩ [.ref a] [.ref a] _ _ rfl hr
      ⟨rfl, ⟨kin, spaces hns, ⟨mb, spaces hb, hbb⟩, ⟨mc, spaces l1, l2⟩⟩, fun b o e => of_hidT e, Nat.le_of_eq (hidT_size _ _), trivial, fun b hb => absurd (show b ∈ ([] : List Addr) from hb) (by simp), hok, .of_eq hg⟩
      (hbind s₁ (.ref a)) (.cons rfl .nil) (hsp H hO hS)) fun r s' h => ?_
    match r, h with
    | .error e, h => exact (hCX H e s' h).elim
    | .ok (.ret u), ⟨v, H', os, bare, un, hok', r', q⟩ =>
      cases (show v = .bl true from q)
      cases (show u = Value.bool true from r')
      refine ⟨rfl, OldK.of_keep fun b o e => ?_, os, bare⟩
      rcases hO b with z | ⟨ob, xs, z⟩
      · exact un.keep b o e z (fun y => absurd (show b ∈ ([] : List Addr) from y) (by simp)) (by simp)
      · obtain ⟨e1, _⟩ := hok b _ z
        obtain ⟨e2, _⟩ := hok' b _ (un.frzs b ob _ z)
        rw [e] at e1
        cases e1
        exact e2
  cases hk : K.lookup a with
  | some o =>
    have e := KX a o hk
    rw [ha] at e
    cases e
    exact core (fun _ => none) (fun _ => .inl rfl) (.inr ⟨_, vs.toArray, _, hk, rfl, rfl, rfl, by rw [List.size_toArray, hi.length]; exact hl, by simpa using rv⟩) (fun b u z => nomatch (show (none : Option HO) = some u from z)) (fun b z => absurd rfl z) fun z => absurd rfl z
  | none =>
    have at' : ∀ b, b ≠ a → (if b = a then some (HO.frz { cls := .type "list", data := .seq vs.toArray } (.lst (ns.map V.int))) else none) = none := fun b n => if_neg n
    refine core (fun b => if b = a then some (.frz { cls := .type "list", data := .seq vs.toArray } (.lst (ns.map V.int))) else none) (fun b => ?_) (.inl (.inr ⟨{ cls := .type "list", data := .seq vs.toArray }, if_pos rfl⟩)) (fun b u z => ?_) (fun b z => Classical.byContradiction fun n => z (at' b n)) fun _ => hk
    · by_cases hb : b = a
      · exact .inr ⟨_, _, if_pos hb⟩
      · exact .inl (at' b hb)
    · by_cases hb : b = a
      · subst hb
        cases (if_pos rfl).symm.trans z
        exact ⟨ha, by rw [List.length_map]; exact hl, vs, _, rv, ha⟩
      · cases (at' b hb).symm.trans z
theorem walkG {l : PySem.W.OpenLaw} {n k : Nat} {q : Program} {loose : List Str} {XP : (Str → Option Value) → Heap → Prop} {YP : World → Heap → Prop} {d : DefRec} {K : Params → PySem.W.Frag} {CX : World → CXT} {sp : World → Sp} {x : Str}
    (hn : l.most = some n) (hn2 : n ≤ sizeLine) (hdf : d.params.defaults = []) (hr : Room k callerA) (hY : ∀ (w : World) (h : Heap), YP w h → (K w.params).In h)
    (F : ∀ (w : World) (mg : Str → Option Value) (fa : Addr) (h : Heap), (K w.params).In h → h.Ns PySem.mainGlobals mg → mg d.name = some (.ref fa) →
      ∃ fd : FuncData, (∀ (s : Shared) (u : Value), BindsTo s fd ⟨[u], []⟩ [(x, u)]) ∧
        ∀ base : Heap, (K w.params).In base → base.Ns PySem.mainGlobals mg → FnG l.prog w (K w.params) mg base (CX w) k fa fd [x] (sp w))
    (hsp : ∀ (w : World) (H : Hp) (a : Addr) (ns : List Int), ns.length ≤ n → Only H → SqL (K w.params) H a (ns.map V.int) → sp w [.ref a] H (fun v _ => v = .bl true) fun _ _ _ => False)
    (hCX : ∀ (w : World) (H : Hp) (s : Shared) (e : Value) (s' : Shared), CX w [] H s (fun _ _ _ => False) e s' → False) :
    PySem.W.WalkO q loose XP YP l.row.toRowW d [] (fun f vs => PySem.call f vs) := by
  refine Att.attach_call hn hdf fun w s₀ s₁ mg mb fa o pm cd doc a vs ns G Y ho hd hcd hmg hobj hints hlen hg => ?_
  have KX := hY w _ Y
  obtain ⟨fd, hb, hF⟩ := F w mg fa _ KX G.T.g hmg
  exact law_callG KX G.T.g G.T.b G.T.builtins G.T.nolimit hg hobj hints (Nat.le_trans hlen hn2) hr hF hb (fun H hO hS => hsp w H a ns hlen hO hS) fun H e s' => hCX w H s₁ e s'
end Kb
namespace Kb
open PySem PySem.Spec PyProof.Rows L2
theorem repr_u {k : Nat} {A : Around} (hr : Room k A) : A.units + 65 < cLine := by have := hr.un; omega
theorem Fun.okG {P : Program} {w : World} {K : PySem.W.Frag} {mg : Str → Option Value} {base : Heap} {k : Nat} {f : Addr} {x qual : Str} {st : Stmt} {fd : FuncData} {N ps : List Str} {sp : Sp} (F : Fun K x qual st f fd) (S : FnScope N ps (defScope st)) (len : ∀ vs H Q E, sp vs H Q E → vs.length = ps.length)
    (hbody : ∀ (cdv : Value) (A : Around) (outer : List Env) (s : Shared) (H : Hp) (vs : List V) (Q : VK) (E : XK), A.guards = some [] → Room k (A.deeper (envOfC qual (defScope st) s.heap.objs.size f cdv)) → sp vs H Q E →
      ∃ t, PSs (cxOf CX0 P w K mg base N qual (defScope st) f cdv A outer s H E).nox (defBody st) t ∧ t { nx := fun _ H' => Q .non H', rt := Q } (start N vs) H) : FnG P w K mg base CX0 (k + 1) f fd ps sp :=
  fnG_of F S len fun cdv A outer s H vs Q E hg hr h => let ⟨t, a, q⟩ := hbody cdv A outer s H vs Q E hg hr h; ⟨t, a.nox, q⟩
end Kb
namespace Kb
open PySem PySem.Spec PyProof.Rows L2 TL
/-! ### a text times a number -/
def rMulS : R2 := fun x y H Q => ∃ (a : Str) (n : Int), x = .str a ∧ y = .int n ∧ n ≤ 1000 ∧ 0 ≤ n ∧ a.length ≤ 1000 ∧ ∀ z : Str, tl z = (List.replicate n.toNat (tl a)).flatten → Q (.str z) H
theorem foldl_app (c : Array Nat) : ∀ (m : Nat) (acc : Array Nat), ((List.replicate m c).foldl (· ++ ·) acc).toList = acc.toList ++ (List.replicate m c.toList).flatten
  | 0, acc => by simp
  | m + 1, acc => by
    rw [List.replicate_succ, List.foldl_cons, foldl_app c m, List.replicate_succ, List.flatten_cons, Array.toList_append, List.append_assoc]
theorem op_mulS {X : Cx} : OpR X (binaryOp .Mult) rMulS := by
  intro pins s σ H x y v u Q I rx ry h
  obtain ⟨a, n, rfl, rfl, h1, h2, h3, q⟩ := h
  obtain ⟨t, rfl⟩ := rx
  obtain ⟨t2, rfl⟩ := ry
  have hz : a.length * n.toNat ≤ 1000 * 1000 := Nat.mul_le_mul h3 (by omega)
  have hline : sizeLine = 16777216 := sizeLine_eq
  refine PySem.P.mul_str (by rw [decide_eq_false (by omega), decide_eq_false (by omega)]; rfl) (fun h4 _ h5 => ?_) (fun _ _ => ?_) ?_
  · have h6 : (1000 : Int) ≤ (2 ^ 63 - 1) / n := Int.le_ediv_of_mul_le (by omega) (by omega)
    omega
  · unfold Builtin.Str.tooLong
    rw [hline]
    exact decide_eq_false (by omega)
  · by_cases hn : n < 1
    · rw [if_pos hn]
      have e : n = 0 := by omega
      subst e
      exact ⟨by decide, .str Str.empty, H, I.tok _, ⟨_, rfl⟩, q Str.empty rfl⟩
    · rw [if_neg hn]
      by_cases h5 : (n == 1 || a.length == 0) = true
      · rw [if_pos h5]
        refine ⟨.str a, H, I, ⟨_, rfl⟩, q a ?_⟩
        rw [Bool.or_eq_true, beq_iff_eq, beq_iff_eq] at h5
        rcases h5 with rfl | h5
        · simp
        · rw [len_tl] at h5
          rw [List.eq_nil_of_length_eq_zero h5]; simp
      · rw [if_neg h5]
        refine ⟨?_, .str ⟨(List.replicate n.toNat a.cps).foldl (· ++ ·) #[]⟩, H, I.tok _, ⟨_, rfl⟩, q _ ?_⟩
        · rw [hline, len_tl]
          show (((List.replicate n.toNat a.cps).foldl (· ++ ·) #[]).toList).length ≤ _
          rw [foldl_app]
          have : ((List.replicate n.toNat a.cps.toList).flatten).length = n.toNat * a.length := by
            rw [PyProof.Rows.lm_len_rep_flat]; rfl
          simp only [Array.toList_empty, List.nil_append]
          rw [this, Nat.mul_comm]
          omega
        · show (((List.replicate n.toNat a.cps).foldl (· ++ ·) #[]).toList) = _
          rw [foldl_app]
          rfl
end Kb

namespace Kb
open PySem PySem.Spec PyProof.Rows L2 TL
/-! ### texts of plain signs -/
def ascii (x : Str) : Prop := ∀ s ∈ tl x, s < 128
theorem ascii.app {x y : Str} (a : ascii x) (b : ascii y) : ascii (x ++ y) := fun s hs => by
  rw [tl_append] at hs
  rcases List.mem_append.mp hs with q | q
  · exact a s q
  · exact b s q
theorem joinE : ∀ L : List (List Nat), joinL [] L = L.flatten
  | [] => rfl
  | [p] => by simp [joinL]
  | p :: q :: r => by
    show p ++ ([] ++ joinL [] (q :: r)) = _
    rw [joinE (q :: r)]
    rfl
theorem ascii.join {c : Str} {W : List Str} (hc : ascii c) (h : ∀ x ∈ W, ascii x) : ascii (Txt.join c W) := fun s hs => by
  rw [join_tl] at hs
  induction W with
  | nil => simp [joinL] at hs
  | cons p W ih =>
    cases W with
    | nil => exact h p (List.mem_cons_self ..) s (by simpa [joinL] using hs)
    | cons q r =>
      have hs : s ∈ tl p ++ (tl c ++ joinL (tl c) ((q :: r).map tl)) := hs
      rcases List.mem_append.mp hs with g | g
      · exact h p (List.mem_cons_self ..) s g
      · rcases List.mem_append.mp g with g | g
        · exact hc s g
        · exact ih (fun x hx => h x (List.mem_cons_of_mem _ hx)) g
theorem ascii.cut {x : Str} {lo hi : Option Int} (h : ascii x) : ascii (cutS x lo hi) := fun s hs => by
  have hs : s ∈ ((tl x).drop (HT.sIx x.length 0 lo)).take (HT.sIx x.length x.length hi - HT.sIx x.length 0 lo) := hs
  exact h s (List.mem_of_mem_drop (List.mem_of_mem_take hs))
theorem cut_len {x : Str} {lo hi : Option Int} : (cutS x lo hi).length ≤ x.length := by
  rw [len_tl, len_tl]
  show (((tl x).drop (HT.sIx x.length 0 lo)).take (HT.sIx x.length x.length hi - HT.sIx x.length 0 lo)).length ≤ _
  rw [List.length_take, List.length_drop]
  omega
theorem ascii.rep {x y : Str} {n : Nat} (h : ascii x) (e : tl y = (List.replicate n (tl x)).flatten) : ascii y := fun s hs => by
  rw [e, List.mem_flatten] at hs
  obtain ⟨l, hl, hs⟩ := hs
  rw [List.eq_of_mem_replicate hl] at hs
  exact h s hs
theorem ascii.up {x : Str} (h : ascii x) : ascii (Txt.upper x) ∧ (Txt.upper x).length = x.length := by
  have e : tl (Txt.upper x) = (tl x).map up1 := by rw [upper_ascii h]; simp [tl]
  refine ⟨fun s hs => ?_, by rw [len_tl, e, List.length_map, ← len_tl]⟩
  rw [e] at hs
  obtain ⟨c, hc, rfl⟩ := List.mem_map.mp hs
  have : ∀ c, c < 128 → up1 c < 128 := by decide +kernel
  exact this c (h c hc)
theorem lower_tl {x : Str} (h : ascii x) : tl (Txt.lower x) = (tl x).map lo1 := by rw [lower_ascii h]; simp [tl]
theorem ascii.low {x : Str} (h : ascii x) : ascii (Txt.lower x) ∧ (Txt.lower x).length = x.length := by
  refine ⟨fun s hs => ?_, by rw [len_tl, lower_tl h, List.length_map, ← len_tl]⟩
  rw [lower_tl h] at hs
  obtain ⟨c, hc, rfl⟩ := List.mem_map.mp hs
  have : ∀ c, c < 128 → lo1 c < 128 := by decide +kernel
  exact this c (h c hc)
/-- a sign of a written text -/
theorem sign_at {z : Str} {r : Int} (h0 : 0 ≤ r) (h1 : r < (z.length : Int)) (ha : ascii z) : ∃ c : Nat, atI z.cps.toList r = some c ∧ ascii (⟨#[c]⟩ : Str) := by
  obtain ⟨n, rfl⟩ : ∃ n : Nat, r = (n : Int) := ⟨r.toNat, by omega⟩
  have hn : n < (tl z).length := by rw [← len_tl]; omega
  refine ⟨(tl z)[n], atI_nat (List.getElem?_eq_getElem hn), fun s hs => ?_⟩
  have : s = (tl z)[n] := by simpa [tl] using hs
  rw [this]
  exact ha _ (List.getElem_mem hn)
end Kb
namespace Kb
open PySem PySem.Spec PyProof.Rows L2 TL
theorem ends_at {x : Str} (h : 1 ≤ x.length) : ∃ a z : Nat, atI x.cps.toList 0 = some a ∧ atI x.cps.toList (-1) = some z ∧ (tl x).head? = some a ∧ (tl x).getLast? = some z := by
  have hne : tl x ≠ [] := fun e => by rw [len_tl, e] at h; simp at h
  obtain ⟨r, d, er⟩ := snoc_of_ne hne
  obtain ⟨a, r2, ea⟩ : ∃ a r2, tl x = a :: r2 := List.exists_cons_of_ne_nil hne
  refine ⟨a, d, ?_, ?_, by rw [ea]; rfl, by rw [er, List.getLast?_concat]⟩
  · show atI (tl x) ((0 : Nat) : Int) = _; rw [ea]; exact atI_nat rfl
  · show atI (tl x) (-1) = _; rw [er]; exact atI_last r d
theorem ascii_lit {x : Str} (h : (tl x).all (· < 128) = true) : ascii x := fun s hs => by
  have := List.all_eq_true.mp h s hs
  simpa using this
end Kb
namespace Kb
open PySem PySem.Spec PyProof.Rows L2 TL
/-- a comprehension over a text -/
theorem lc_str {z : Str} {g : TG} {tt : TT} {te : TE} {vs : List Nat} {σ : L2.St} {H1 : Hp} {D : Addr} {Qd : Hp → Prop} (Pv : Nat → Hp → Prop) (h0 : Pv 0 (L2.upd H1 D (.lst [])))
    (hs : ∀ i c H, (tl z)[i]? = some c → Pv i H → g (.str ⟨#[c]⟩) (wipe σ vs) H fun σ2 H2 => wipe σ2 vs = wipe σ vs ∧ tt σ2 H2 fun b H3 =>
      if b = true then te σ2 H3 fun y H4 => ∃ acc, H4 D = some (.lst acc) ∧ acc.length < sizeLine ∧ Pv (i + 1) (L2.upd H4 D (.lst (acc ++ [y]))) else Pv (i + 1) H3) (hd : ∀ H, Pv (tl z).length H → Qd H) :
    ∃ W : Nat → Nat → Hp → Prop, (∃ m, W 0 m (L2.upd H1 D (.lst []))) ∧ ∀ i m H, W i m H →
      ((Its z).stop i H ∧ Qd H) ∨ ((Its z).go i H ∧ ∃ Nx : Hp → Prop, (∀ H', Nx H' → ∃ m', m' < m ∧ W (i + 1) m' H') ∧ ∀ x H', (Its z).yld i H x H' → g x (wipe σ vs) H' fun σ2 H2 => wipe σ2 vs = wipe σ vs ∧ tt σ2 H2 fun b H3 =>
        if b = true then te σ2 H3 fun y H4 => ∃ acc, H4 D = some (.lst acc) ∧ acc.length < sizeLine ∧ Nx (L2.upd H4 D (.lst (acc ++ [y]))) else Nx H3) := by
  refine lc_it walk_str Pv h0 (fun _ _ _ _ => trivial) (fun i x H H' hi p y => ?_) (fun H p => hd H (by rw [show (tl z).length = z.cps.size by simp [tl]]; exact p))
  obtain ⟨rfl, c, hc, rfl⟩ := y
  exact hs i c _ (by rw [← hc]; simp [tl]) p
/-- the last part of a text -/
def smallS (x : Str) : Prop := x.length ≤ 1000 ∧ ascii x
theorem lay_str {x : Str} (h : ascii x) : PyData.canLay0 (.str x) = true := by
  rw [PyData.canLay0]
  show x.cps.all _ = true
  rw [Array.all_eq_true_iff_forall_mem]
  intro s hs
  have := h s (Array.mem_toList_iff.mpr hs)
  exact decide_eq_true (by omega)
end Kb
namespace Kb
open PySem PySem.Spec PyProof.Rows L2 TL
theorem Same.put {H H1 : Hp} {L : Addr} {o : HO} (s : Same H H1) (h : H L = none) : Same H (L2.upd H1 L o) := fun b u e => by
  rw [upd_ne (ne_of_none e h)]
  exact s b u e
theorem all_take1 {α : Type} {p : α → Bool} {l : List α} {i : Nat} {c : α} (h : l[i]? = some c) : (l.take (i + 1)).all p = ((l.take i).all p && p c) := by
  rw [List.take_succ, h, List.all_append]
  simp
theorem eq_nil_snoc {α : Type} {W : List α} {x : α} : (W ++ [x] = []) ↔ False := by simp
theorem lay_strs {W : List Str} (h : ∀ w ∈ W, ascii w) : SeqAt.shaped (.list (W.map PyData.str)) = true := shaped_strs fun w hw => lay_str (h w hw)
theorem eqv_nil (W : List Str) : PyData.eqv (.list (W.map PyData.str)) (.list (([] : List Str).map PyData.str)) = decide (W = []) := by rw [PyData.eqv, eqvAll_strs]
theorem tl_lsig2 : ("abcdefghijklmnopqrstuvwxyz0123456789-" : Str).cps.toList = lsig := tl_lsig
theorem tl_digs2 : ("0123456789" : Str).cps.toList = digs := tl_digs
theorem ascii_mem {x : Str} {i c : Nat} (h : ascii x) (hi : (tl x)[i]? = some c) : ascii (⟨#[c]⟩ : Str) := fun s hs => by
  have : s = c := by simpa [tl] using hs
  rw [this]
  exact h c (List.mem_of_getElem? hi)
end Kb
namespace Kb
open PySem PySem.Spec PyProof.Rows L2 TL
theorem numB_iff {l : List Nat} : numB l = true ↔ ∃ j, j < 256 ∧ l = numL j := by
  constructor
  · intro h
    unfold numB at h
    rw [Bool.and_eq_true, Bool.and_eq_true, Bool.or_eq_true, decide_eq_true_eq, decide_eq_true_eq, decide_eq_true_eq] at h
    obtain ⟨hd, hv, hz⟩ := h
    obtain ⟨had, hne⟩ := digB_iff.mp hd
    refine ⟨NumText.digitsVal l, by omega, ?_⟩
    obtain ⟨n, hn⟩ : ∃ n, l.length = n + 1 := ⟨l.length - 1, by have := List.length_pos_iff.mpr hne; omega⟩
    have e := NumText.toDigits_digitsVal n l hn had (by
      rcases hz with rfl | hz
      · left; simp at hn; omega
      · right
        obtain ⟨c, r, rfl⟩ := List.exists_cons_of_ne_nil hne
        refine ⟨c, r, rfl, ?_⟩
        have := had c (List.mem_cons_self ..)
        have hc : c ≠ 48 := fun q => hz (by rw [q]; rfl)
        omega)
    show l = (Nat.toDigits 10 (NumText.digitsVal l)).map Char.toNat
    rw [e, List.map_map]
    refine (List.map_id l).symm.trans (List.map_congr_left fun c hc => ?_)
    have h1 := had c hc
    have : ∀ c, c < 58 → c = (Char.ofNat c).toNat := by decide +kernel
    exact this c (by omega)
  · rintro ⟨j, hj, rfl⟩
    have : ∀ j, j < 256 → numB (numL j) = true := by decide +kernel
    exact this j hj
end Kb
namespace Kb
open PySem PySem.Spec PyProof.Rows L2 TL PySem.StrLaws Builtin.Str
/-! ### texts that tell hosts -/
def stripDot (l : List Nat) : List Nat := if l.getLast? = some 46 then l.dropLast else l
def tellsL (l : List Nat) : Bool := hostB (stripDot l)
def beginsB (l : List Nat) : Bool := hostB l || (hostB (l ++ [97]) || hostB (l ++ [46, 97]))
def goodL (l : List Nat) : Bool := tellsL l || beginsB l
def PlaceIs (m : List Nat) (k : Nat) : Prop := (k = m.length + 1 ∧ ∀ j, j < m.length → goodL (m.take (j + 1)) = true) ∨ (1 ≤ k ∧ k ≤ m.length ∧ goodL (m.take k) = false ∧ ∀ j, j + 1 < k → goodL (m.take (j + 1)) = true)
theorem PlaceIs.uniq {m : List Nat} {k k' : Nat} (a : PlaceIs m k) (b : PlaceIs m k') : k = k' := by
  rcases a with ⟨a1, a2⟩ | ⟨a0, a1, a2, a3⟩ <;> rcases b with ⟨b1, b2⟩ | ⟨b0, b1, b2, b3⟩
  · omega
  · have := a2 (k' - 1) (by omega)
    rw [show k' - 1 + 1 = k' by omega, b2] at this
    cases this
  · have := b2 (k - 1) (by omega)
    rw [show k - 1 + 1 = k by omega, a2] at this
    cases this
  · rcases Nat.lt_trichotomy k k' with q | q | q
    · have := b3 (k - 1) (by omega)
      rw [show k - 1 + 1 = k by omega, a2] at this
      cases this
    · exact q
    · have := a3 (k' - 1) (by omega)
      rw [show k' - 1 + 1 = k' by omega, b2] at this
      cases this
theorem host_dot {l : List Nat} (h : l.getLast? = some 46) : hostB l = false := by
  have hne : l ≠ [] := fun e => by rw [e] at h; cases h
  obtain ⟨r, d, er⟩ := snoc_of_ne hne
  rw [er, List.getLast?_concat] at h
  have hd : d = 46 := Option.some.inj h
  subst hd
  have e : sp1 46 l = sp1 46 r ++ [[]] := by rw [er, sp1_app]; rfl
  unfold hostB hostL
  have : (sp1 46 l).all labB = false := by
    rw [e, List.all_append]
    have : [([] : List Nat)].all labB = false := by decide +kernel
    rw [this, Bool.and_false]
  rw [this, Bool.false_and, Bool.and_false, Bool.and_false]
theorem strip_other {l : List Nat} (h : l.getLast? ≠ some 46) : stripDot l = l := if_neg h
theorem strip_dot {l : List Nat} : stripDot (l ++ [46]) = l := by
  unfold stripDot
  rw [if_pos (by rw [List.getLast?_concat]), List.dropLast_concat]
theorem tellsL_or (l : List Nat) : tellsL l = (hostB l || (decide (l.getLast? = some 46) && hostB l.dropLast)) := by
  unfold tellsL stripDot
  by_cases h : l.getLast? = some 46
  · rw [if_pos h, host_dot h, decide_eq_true h]; rfl
  · rw [if_neg h, decide_eq_false h, Bool.false_and, Bool.or_false]
theorem law_begins (l : List Nat) : (tellsL l || (tellsL (l ++ [97]) || (tellsL (l ++ [46, 97]) || tellsL (l ++ [46])))) = goodL l := by
  have e1 : tellsL (l ++ [97]) = hostB (l ++ [97]) := by unfold tellsL; rw [strip_other (by rw [List.getLast?_concat]; decide)]
  have e2 : tellsL (l ++ [46, 97]) = hostB (l ++ [46, 97]) := by
    unfold tellsL
    rw [strip_other]
    rw [show l ++ [46, 97] = (l ++ [46]) ++ [97] by simp, List.getLast?_concat]; decide
  have e3 : tellsL (l ++ [46]) = hostB l := by unfold tellsL; rw [strip_dot]
  rw [e1, e2, e3]
  unfold goodL beginsB
  cases tellsL l <;> cases hostB l <;> cases hostB (l ++ [97]) <;> cases hostB (l ++ [46, 97]) <;> rfl
theorem removesuffix_dot (x : Str) : tl (Txt.removesuffix x ("." : Str)) = stripDot (tl x) := by
  unfold Txt.removesuffix
  have d1 : ("." : Str).length = 1 := by decide +kernel
  by_cases h : (tl x).getLast? = some 46
  · have hne : tl x ≠ [] := fun e => by rw [e] at h; cases h
    obtain ⟨r, d, er⟩ := snoc_of_ne hne
    rw [er, List.getLast?_concat] at h
    have hd : d = 46 := Option.some.inj h
    subst hd
    have hl : x.length = r.length + 1 := by rw [len_tl, er]; simp
    have hs : subAt x ("." : Str) (x.length - ("." : Str).length) = true := by
      rw [subAt_eq, d1, hl]
      show (List.take 1 (List.drop (r.length + 1 - 1) (tl x)) == tl ("." : Str)) = true
      rw [er, tl_dot, Nat.add_sub_cancel, List.drop_left]
      rfl
    rw [if_pos (by rw [hs, d1, hl]; simp), er, strip_dot]
    show tl (if x.length - ("." : Str).length - 0 == x.length then x else strSub x 0 (x.length - ("." : Str).length)) = r
    rw [if_neg (by rw [d1, hl]; simp), tl_strSub, er, d1, hl]
    simp
  · rw [strip_other h, if_neg]
    · rfl
    · intro g
      rw [Bool.and_eq_true] at g
      obtain ⟨g1, g2⟩ := g
      have g1 : ("." : Str).length ≤ x.length := of_decide_eq_true g1
      rw [d1] at g1
      rw [subAt_eq, d1] at g2
      have g2 : (List.take 1 (List.drop (x.length - 1) (tl x)) == tl ("." : Str)) = true := g2
      rw [tl_dot] at g2
      have hne : tl x ≠ [] := fun e => by rw [len_tl, e] at g1; simp at g1
      obtain ⟨r, d, er⟩ := snoc_of_ne hne
      have hl : x.length = r.length + 1 := by rw [len_tl, er]; simp
      rw [hl, Nat.add_sub_cancel, er, List.drop_left] at g2
      have : d = 46 := by simpa using g2
      rw [er, List.getLast?_concat, this] at h
      exact h rfl
theorem strip_low {l : List Nat} (h : ∀ s ∈ l, s < 128) : (stripDot l).map lo1 = stripDot (l.map lo1) := by
  by_cases hne : l = []
  · rw [hne]; rfl
  obtain ⟨r, d, rfl⟩ := snoc_of_ne hne
  have hd := h d (List.mem_append_right _ (List.mem_singleton.mpr rfl))
  have key : ∀ c, c < 128 → (lo1 c = 46 ↔ c = 46) := by decide +kernel
  rw [List.map_append, List.map_cons, List.map_nil]
  by_cases q : d = 46
  · subst q
    rw [strip_dot, show lo1 46 = 46 by decide, strip_dot]
  · rw [strip_other (by rw [List.getLast?_concat]; simpa using q), strip_other (by rw [List.getLast?_concat]; simpa using fun e => q ((key d hd).mp e)), List.map_append]
    rfl
def lowL (x : Str) : List Nat := (tl x).map lo1
theorem lowT_tl {x : Str} (h : ascii x) : tl (Txt.lower (Txt.removesuffix x ("." : Str))) = stripDot (lowL x) := by
  have e := removesuffix_dot x
  have a : ascii (Txt.removesuffix x ("." : Str)) := fun s hs => by
    rw [e] at hs
    unfold stripDot at hs
    split at hs
    · exact h s ((List.dropLast_sublist _).subset hs)
    · exact h s hs
  rw [lower_tl a, e]
  exact strip_low h
end Kb
namespace Kb
open PySem PySem.Spec PyProof.Rows L2 TL PySem.StrLaws Builtin.Str
theorem cutS_m1 (z : Str) : tl (cutS z none (some (-1))) = (tl z).dropLast := by
  show ((tl z).drop (HT.sIx z.length 0 none)).take (HT.sIx z.length z.length (some (-1)) - HT.sIx z.length 0 none) = _
  rw [HT.sIx_none, List.drop_zero, Nat.sub_zero, List.dropLast_eq_take, len_tl]
  have e : HT.sIx (tl z).length (tl z).length (some (-1)) = (tl z).length - 1 := by
    show (if (-1 : Int) < 0 then ((-1 : Int) + ((tl z).length : Int)).toNat else min (-1 : Int).toNat (tl z).length) = _
    rw [if_pos (by decide)]
    omega
  rw [e]
theorem cutS_l1 (z : Str) : tl (cutS z (some (-1)) none) = lastN 1 (tl z) := by
  show ((tl z).drop (HT.sIx z.length 0 (some (-1)))).take (HT.sIx z.length z.length none - HT.sIx z.length 0 (some (-1))) = _
  rw [HT.sIx_none, len_tl]
  have e : HT.sIx (tl z).length 0 (some (-1)) = (tl z).length - 1 := by
    show (if (-1 : Int) < 0 then ((-1 : Int) + ((tl z).length : Int)).toNat else min (-1 : Int).toNat (tl z).length) = _
    rw [if_pos (by decide)]
    omega
  rw [e]
  exact List.take_of_length_le (by rw [List.length_drop] <;> omega)
theorem last_dot (z : Str) : decide (V.str (cutS z (some (-1)) none) = V.str ("." : Str)) = decide ((tl z).getLast? = some 46) := by
  rw [Bool.eq_iff_iff, decide_eq_true_eq, decide_eq_true_eq, V.str.injEq, str_eq_iff, cutS_l1, tl_dot]
  by_cases h : tl z = []
  · rw [h]; simp [lastN]
  · obtain ⟨r, d, er⟩ := snoc_of_ne h
    rw [er, List.getLast?_concat]
    unfold lastN
    rw [List.length_append, List.length_singleton, Nat.add_sub_cancel, List.drop_left]
    simp
end Kb
namespace Kb
open PySem PySem.Spec PyProof.Rows L2 TL
def Ans03 (H' : Hp) (m : List Nat) (v : V) : Prop := (tellsL m = true ∧ ∃ (p : Addr) (y : Str), v = .ref p ∧ H' p = some (.lst [.str y]) ∧ tl y = stripDot m) ∨ (tellsL m = false ∧ ∃ k : Nat, v = .int (k : Nat) ∧ PlaceIs m k)
theorem strip_len {l : List Nat} : (stripDot l).length ≤ l.length := by
  unfold stripDot
  split
  · rw [List.length_dropLast]; omega
  · exact Nat.le_refl _
theorem rs_len (x : Str) : (Txt.removesuffix x ("." : Str)).length ≤ x.length := by
  rw [len_tl, removesuffix_dot, len_tl]; exact strip_len
end Kb
namespace Kb
open PySem PySem.Spec PyProof.Rows L2 TL
/-- the first place at which a text begins no host -/
def PlaceB (m : List Nat) (k : Nat) : Prop := (k = m.length + 1 ∧ ∀ j, j < m.length → beginsB (m.take (j + 1)) = true) ∨ (1 ≤ k ∧ k ≤ m.length ∧ beginsB (m.take k) = false ∧ ∀ j, j + 1 < k → beginsB (m.take (j + 1)) = true)
theorem PlaceB.uniq {m : List Nat} {k k' : Nat} (a : PlaceB m k) (b : PlaceB m k') : k = k' := by
  rcases a with ⟨a1, a2⟩ | ⟨a0, a1, a2, a3⟩ <;> rcases b with ⟨b1, b2⟩ | ⟨b0, b1, b2, b3⟩
  · omega
  · have := a2 (k' - 1) (by omega)
    rw [show k' - 1 + 1 = k' by omega, b2] at this
    cases this
  · have := b2 (k - 1) (by omega)
    rw [show k - 1 + 1 = k by omega, a2] at this
    cases this
  · rcases Nat.lt_trichotomy k k' with q | q | q
    · have := b3 (k - 1) (by omega)
      rw [show k - 1 + 1 = k by omega, a2] at this
      cases this
    · exact q
    · have := a3 (k' - 1) (by omega)
      rw [show k' - 1 + 1 = k' by omega, b2] at this
      cases this
end Kb
namespace Kb
open PySem PySem.Spec PyProof.Rows L2
theorem ty_same {K : PySem.W.Frag} {H H' : Hp} {v : V} {t : Value} (s : Same H H') (h : TyX K H v t) : TyX K H' v t := by
  cases h with
  | base h =>
    refine .base ?_
    cases h with
    | non => exact .non
    | bl x => exact .bl x
    | int i => exact .int i
    | str x => exact .str x
    | flt x => exact .flt x
    | lst e => exact .lst (s _ _ e)
    | frz e => exact .frz (s _ _ e)
    | tup e => exact .tup (s _ _ e)
    | dK e => exact .dK (s _ _ e)
    | dT e => exact .dT (s _ _ e)
    | ins e cl ha hn htk hm => exact .ins (s _ _ e) cl ha hn htk hm
  | byt b => exact .byt b
  | set e => exact .set (s _ _ e)
  | kList e c => exact .kList e c
  | kTuple e c => exact .kTuple e c
  | kDict e c => exact .kDict e c
  | fTuple e => exact .fTuple (s _ _ e)
  | fDict e => exact .fDict (s _ _ e)
end Kb

namespace Pf
open PySem PySem.Spec PyProof.Rows L2 TL Kb
def top (i : Nat) : Stmt := PySem.Challenge.pw_crumbjar_k03_whole_host_texts.main.body.getD i (.Pass ⟨0, 0, 0, 0⟩)
def clsInit : Stmt → Stmt
  | .ClassDef _ _ _ body _ _ _ _ _ _ _ => body.getD 0 (.Pass ⟨0, 0, 0, 0⟩)
  | s => s
abbrev si_BadHost : Stmt := clsInit (top 2)
theorem sci_BadHost : FnScope ["self", "place"] ["self", "place"] (defScope si_BadHost) := ⟨rfl, rfl, rfl, by decide +kernel, rfl, by decide +kernel, by decide +kernel⟩
theorem oki_BadHost {K : PySem.W.Frag} {mg : Str → Option Value} {C fI : Addr} {fd : FuncData} (P : Program) (w : World) (base : Heap) (F : Fun K "__init__" "BadHost.__init__" si_BadHost fI fd) : FnOk P w K mg base CX0 1 fI fd ["self", "place"] (spInit K C "place") := by
  refine F.ok sci_BadHost (fun vs H Q E h => ?_) (fun cdv A outer s H vs Q E hr h => ?_)
  · obtain ⟨_, _, rfl, _⟩ := h; rfl
  · refine ⟨_, pss_one (ps_ost (pv 0) (pv 1)), ?_⟩
    obtain ⟨a, v, rfl, ha, T, no, hQ⟩ := h
    exact ⟨_, rfl, _, rfl, a, C, rfl, T, no, .inl ⟨ha, fun dx h1 h2 => hQ dx h1 h2⟩⟩
theorem bi_BadHost : ∀ (kV doc pm : Value) (an : Option Addr) (cdv ct : Value) (us : List Value), us.length = (["self", "place"] : List Str).length → bindArgs (PySem.W.fnOf "__init__" "BadHost.__init__" (defArgs si_BadHost) (defBody si_BadHost) (defScope si_BadHost) .none kV doc pm an cdv ct) ⟨us, []⟩ = pure ((["self", "place"] : List Str).zip us) :=
  fun _ _ _ _ _ _ us hl => match us, hl with | [_, _], _ => rfl
abbrev s__law_draw : Stmt := top 25
theorem sc__law_draw : FnScope ["cell", "k"] ["cell", "k"] (defScope s__law_draw) := ⟨rfl, rfl, rfl, by decide +kernel, rfl, by decide +kernel, by decide +kernel⟩
abbrev s__law_mixed : Stmt := top 24
theorem sc__law_mixed : FnScope ["cell", "k", "one"] ["cell", "k"] (defScope s__law_mixed) := ⟨rfl, rfl, rfl, by decide +kernel, rfl, by decide +kernel, by decide +kernel⟩
abbrev s__law_digit : Stmt := top 26
theorem sc__law_digit : FnScope ["draw", "span", "j", "found"] ["draw", "span"] (defScope s__law_digit) := ⟨rfl, rfl, rfl, by decide +kernel, rfl, by decide +kernel, by decide +kernel⟩
abbrev s__law_label : Stmt := top 27
theorem sc__law_label : FnScope ["draw", "size", "signs", "j"] ["draw"] (defScope s__law_label) := ⟨rfl, rfl, rfl, by decide +kernel, rfl, by decide +kernel, by decide +kernel⟩
abbrev s__law_text : Stmt := top 31
theorem sc__law_text : FnScope ["draw", "many", "words", "text", "at", "sign", "way", "j"] ["draw"] (defScope s__law_text) := ⟨rfl, rfl, rfl, by decide +kernel, rfl, by decide +kernel, by decide +kernel⟩
abbrev s__law_is_label : Stmt := top 28
theorem sc__law_is_label : FnScope ["text", "sign"] ["text"] (defScope s__law_is_label) := ⟨rfl, rfl, rfl, by decide +kernel, rfl, by decide +kernel, by decide +kernel⟩
abbrev s__law_is_numeric : Stmt := top 29
theorem sc__law_is_numeric : FnScope ["text", "j"] ["text"] (defScope s__law_is_numeric) := ⟨rfl, rfl, rfl, by decide +kernel, rfl, by decide +kernel, by decide +kernel⟩
abbrev s__law_is_host : Stmt := top 30
theorem sc__law_is_host : FnScope ["text", "words", "word", "sign"] ["text"] (defScope s__law_is_host) := ⟨rfl, rfl, rfl, by decide +kernel, rfl, by decide +kernel, by decide +kernel⟩
abbrev s__law_tells : Stmt := top 32
theorem sc__law_tells : FnScope ["text"] ["text"] (defScope s__law_tells) := ⟨rfl, rfl, rfl, by decide +kernel, rfl, by decide +kernel, by decide +kernel⟩
abbrev s__law_begins : Stmt := top 33
theorem sc__law_begins : FnScope ["text", "tail"] ["text"] (defScope s__law_begins) := ⟨rfl, rfl, rfl, by decide +kernel, rfl, by decide +kernel, by decide +kernel⟩
abbrev s__law_due : Stmt := top 34
theorem sc__law_due : FnScope ["text", "small", "at"] ["text"] (defScope s__law_due) := ⟨rfl, rfl, rfl, by decide +kernel, rfl, by decide +kernel, by decide +kernel⟩
abbrev s_has_only : Stmt := top 5
theorem sc_has_only : FnScope ["text", "signs"] ["text", "signs"] (defScope s_has_only) := ⟨rfl, rfl, rfl, by decide +kernel, rfl, by decide +kernel, by decide +kernel⟩
abbrev s_is_digits : Stmt := top 6
theorem sc_is_digits : FnScope ["text"] ["text"] (defScope s_is_digits) := ⟨rfl, rfl, rfl, by decide +kernel, rfl, by decide +kernel, by decide +kernel⟩
abbrev s__is_label : Stmt := top 17
theorem sc__is_label : FnScope ["text"] ["text"] (defScope s__is_label) := ⟨rfl, rfl, rfl, by decide +kernel, rfl, by decide +kernel, by decide +kernel⟩
abbrev s_are_labels : Stmt := top 16
theorem sc_are_labels : FnScope ["texts", "text"] ["texts"] (defScope s_are_labels) := ⟨rfl, rfl, rfl, by decide +kernel, rfl, by decide +kernel, by decide +kernel⟩
abbrev s__is_number : Stmt := top 19
theorem sc__is_number : FnScope ["label"] ["label"] (defScope s__is_number) := ⟨rfl, rfl, rfl, by decide +kernel, rfl, by decide +kernel, by decide +kernel⟩
abbrev s__are_four_numbers : Stmt := top 18
theorem sc__are_four_numbers : FnScope ["labels", "label"] ["labels"] (defScope s__are_four_numbers) := ⟨rfl, rfl, rfl, by decide +kernel, rfl, by decide +kernel, by decide +kernel⟩
abbrev s_is_host : Stmt := top 14
theorem sc_is_host : FnScope ["value", "labels"] ["value"] (defScope s_is_host) := ⟨rfl, rfl, rfl, by decide +kernel, rfl, by decide +kernel, by decide +kernel⟩
abbrev s__tells_host : Stmt := top 20
theorem sc__tells_host : FnScope ["text"] ["text"] (defScope s__tells_host) := ⟨rfl, rfl, rfl, by decide +kernel, rfl, by decide +kernel, by decide +kernel⟩
abbrev s__begins_host : Stmt := top 22
theorem sc__begins_host : FnScope ["text", "end"] ["text"] (defScope s__begins_host) := ⟨rfl, rfl, rfl, by decide +kernel, rfl, by decide +kernel, by decide +kernel⟩
abbrev s__told_place : Stmt := top 21
theorem sc__told_place : FnScope ["text", "many", "begun"] ["text"] (defScope s__told_place) := ⟨rfl, rfl, rfl, by decide +kernel, rfl, by decide +kernel, by decide +kernel⟩
abbrev s_host_of : Stmt := top 15
theorem sc_host_of : FnScope ["text"] ["text"] (defScope s_host_of) := ⟨rfl, rfl, rfl, by decide +kernel, rfl, by decide +kernel, by decide +kernel⟩
abbrev s__law_told : Stmt := top 35
theorem sc__law_told : FnScope ["text", "found", "e"] ["text"] (defScope s__law_told) := ⟨rfl, rfl, rfl, by decide +kernel, rfl, by decide +kernel, by decide +kernel⟩
abbrev s_law : Stmt := top 36
theorem sc_law : FnScope ["script", "k", "amount", "draw", "turn", "text", "odd", "row"] ["script"] (defScope s_law) := ⟨rfl, rfl, rfl, by decide +kernel, rfl, by decide +kernel, by decide +kernel⟩
/-- what the top has written -/
structure Txt (K : PySem.W.Frag) (mg : Str → Option Value) : Prop where
  b_enumerate : mg "enumerate" = none
  b_int : mg "int" = none
  b_isinstance : mg "isinstance" = none
  b_len : mg "len" = none
  b_range : mg "range" = none
  b_repr : mg "repr" = none
  b_str : mg "str" = none
  b_sum : mg "sum" = none
  c_DIGITS : ∃ u, mg "DIGITS" = some u ∧ RelV (.str "0123456789") u
  c_MOST_OF_LABEL : ∃ u, mg "MOST_OF_LABEL" = some u ∧ RelV (.int 20) u
  c_MOST_LABELS : ∃ u, mg "MOST_LABELS" = some u ∧ RelV (.int 10) u
  c_MOST_OF_HOST : ∃ u, mg "MOST_OF_HOST" = some u ∧ RelV (.int 100) u
  c_MOST_OF_NUMBER : ∃ u, mg "MOST_OF_NUMBER" = some u ∧ RelV (.int 255) u
  c_LABEL_SIGNS : ∃ u, mg "LABEL_SIGNS" = some u ∧ RelV (.str "abcdefghijklmnopqrstuvwxyz0123456789-") u
  c_ENDS : ∃ a, mg "ENDS" = some (.ref a) ∧ ∀ H, SqT K H a [(.str ""), (.str "a"), (.str ".a")]
  e_BadHost : ∃ C, Err K mg "BadHost" "place" C
  d__law_draw : Df K mg "_law_draw" s__law_draw ["cell", "k"]
  d__law_mixed : Df K mg "_law_mixed" s__law_mixed ["cell", "k"]
  d__law_digit : Df K mg "_law_digit" s__law_digit ["draw", "span"]
  d__law_label : Df K mg "_law_label" s__law_label ["draw"]
  d__law_text : Df K mg "_law_text" s__law_text ["draw"]
  d__law_is_label : Df K mg "_law_is_label" s__law_is_label ["text"]
  d__law_is_numeric : Df K mg "_law_is_numeric" s__law_is_numeric ["text"]
  d__law_is_host : Df K mg "_law_is_host" s__law_is_host ["text"]
  d__law_tells : Df K mg "_law_tells" s__law_tells ["text"]
  d__law_begins : Df K mg "_law_begins" s__law_begins ["text"]
  d__law_due : Df K mg "_law_due" s__law_due ["text"]
  d_has_only : Df K mg "has_only" s_has_only ["text", "signs"]
  d_is_digits : Df K mg "is_digits" s_is_digits ["text"]
  d__is_label : Df K mg "_is_label" s__is_label ["text"]
  d_are_labels : Df K mg "are_labels" s_are_labels ["texts"]
  d__is_number : Df K mg "_is_number" s__is_number ["label"]
  d__are_four_numbers : Df K mg "_are_four_numbers" s__are_four_numbers ["labels"]
  d_is_host : Df K mg "is_host" s_is_host ["value"]
  d__tells_host : Df K mg "_tells_host" s__tells_host ["text"]
  d__begins_host : Df K mg "_begins_host" s__begins_host ["text"]
  d__told_place : Df K mg "_told_place" s__told_place ["text"]
  d_host_of : Df K mg "host_of" s_host_of ["text"]
  d__law_told : Df K mg "_law_told" s__law_told ["text"]
/-- a new draw -/
def sp__law_draw : Sp := fun vs H Q _ => ∃ c k : Int, vs = [.int c, .int k] ∧ 0 ≤ k ∧ k ≤ 1000 ∧ ∀ (d : Addr) (H' : Hp), Same H H' → H d = none → DrawAt H' d 200000000 → Q (.ref d) H'
theorem dkv_merge (l c t : Int) : mergeK [] (dkv l c t) = dkv l c t := by
  simp [mergeK, dkv, putK, kne1, kne2, kne3]
/-- some number below 2147483647 -/
def sp__law_mixed : Sp := fun vs H Q _ => ∃ c k : Int, vs = [.int c, .int k] ∧ 0 ≤ k ∧ k ≤ 1000000000 ∧ ∀ (r : Int) (H' : Hp), Same H H' → 0 ≤ r → r < 2147483647 → Q (.int r) H'
/-- some number below the span -/
def sp__law_digit : Sp := fun vs H Q _ => ∃ (d : Addr) (sp : Int) (n : Nat), vs = [.ref d, .int sp] ∧ 0 < sp ∧ sp < 4000000000 ∧ DrawAt H d (n + 1) ∧
  ∀ (r : Int) (H' : Hp), 0 ≤ r → r < sp → Keep d H H' → DrawAt H' d n → Q (.int r) H'
theorem small15 {n : Nat} (h : n ≤ 15) : n < sizeLine := Nat.lt_of_le_of_lt h (by decide)
def sp__law_label : Sp := fun vs H Q _ => ∃ (d : Addr) (n : Nat), vs = [.ref d] ∧ DrawAt H d (n + 30) ∧
  ∀ (x : Str) (H' : Hp), x.length ≤ 22 → ascii x → Keep d H H' → DrawAt H' d n → Q (.str x) H'
theorem abz_ascii : ascii ("abz019-" : Str) := by unfold ascii; decide +kernel
def sp__law_text : Sp := fun vs H Q _ => ∃ (d : Addr) (n : Nat), vs = [.ref d] ∧ DrawAt H d (n + 400) ∧
  ∀ (x : Str) (H' : Hp), x.length ≤ 300 → ascii x → Keep d H H' → DrawAt H' d n → Q (.str x) H'
def sp__law_is_label : Sp := fun vs H Q _ => ∃ x : Str, vs = [.str x] ∧ smallS x ∧ ∀ H', Same H H' → Q (.bl (labB (tl x))) H'
theorem one_dash2 (c : Nat) : decide (V.str ⟨#[c]⟩ = V.str ("-" : Str)) = decide (c = 45) := by
  rw [show ("-" : Str) = ⟨#[45]⟩ from ext_tl (by decide +kernel), dec_str, Bool.eq_iff_iff, beq_iff_eq, decide_eq_true_eq, str_eq_iff]
  show [c] = [45] ↔ _
  simp
def numS (j : Nat) : Str := toString ((0 : Int) + (j : Int))
def nums : List Str := (List.range 256).map numS
def sp__law_is_numeric : Sp := fun vs H Q _ => ∃ x : Str, vs = [.str x] ∧ ∀ H', Same H H' → Q (.bl (numB (tl x))) H'
def sp__law_is_host : Sp := fun vs H Q _ => ∃ x : Str, vs = [.str x] ∧ smallS x ∧ ∀ H', Same H H' → Q (.bl (hostB (tl x))) H'
def sp__law_tells : Sp := fun vs H Q _ => ∃ x : Str, vs = [.str x] ∧ smallS x ∧ ∀ H', Same H H' → Q (.bl (tellsL (tl x))) H'
def sp__law_begins : Sp := fun vs H Q _ => ∃ x : Str, vs = [.str x] ∧ x.length ≤ 900 ∧ ascii x ∧ ∀ H', Same H H' → Q (.bl (goodL (tl x))) H'
def tails4 : List Str := [("" : Str), "a", ".a", "."]
def sp__law_due : Sp := fun vs H Q _ => ∃ x : Str, vs = [.str x] ∧ x.length ≤ 900 ∧ ascii x ∧ ∀ r H', Same H H' → Ans03 H' (lowL x) r → Q r H'
def sp_has_only : Sp := fun vs H Q _ => ∃ x g : Str, vs = [.str x, .str g] ∧ x.length ≤ 1000000 ∧ Q (.bl (onlyB (tl g) (tl x))) H
def sp_is_digits : Sp := fun vs H Q _ => ∃ x : Str, vs = [.str x] ∧ x.length ≤ 1000000 ∧ Q (.bl (digB (tl x))) H
def sp__is_label : Sp := fun vs H Q _ => ∃ x : Str, vs = [.str x] ∧ x.length ≤ 1000000 ∧ Q (.bl (labB (tl x))) H
theorem one_dash (c : Nat) : decide (V.str ⟨#[c]⟩ = V.str ("-" : Str)) = decide (c = 45) := by
  rw [show ("-" : Str) = ⟨#[45]⟩ from ext_tl (by decide +kernel), dec_str, Bool.eq_iff_iff, beq_iff_eq, decide_eq_true_eq, str_eq_iff]
  show [c] = [45] ↔ _
  simp
def sp_are_labels (K : PySem.W.Frag) : Sp := fun vs H Q _ => ∃ (p : Addr) (xs : List Str), vs = [.ref p] ∧ SqL K H p (xs.map V.str) ∧ (∀ x ∈ xs, x.length ≤ 1000000) ∧ Q (.bl ((xs.map tl).all labB)) H
def sp__is_number : Sp := fun vs H Q _ => ∃ x : Str, vs = [.str x] ∧ x.length ≤ 640 ∧ Q (.bl (numB (tl x))) H
theorem one_zero (c : Nat) : decide (V.str ⟨#[c]⟩ = V.str ("0" : Str)) = decide (c = 48) := by
  rw [show ("0" : Str) = ⟨#[48]⟩ from ext_tl (by decide +kernel), dec_str, Bool.eq_iff_iff, beq_iff_eq, decide_eq_true_eq, str_eq_iff]
  show [c] = [48] ↔ _
  simp
theorem str_zero (x : Str) : decide (V.str x = V.str ("0" : Str)) = decide (tl x = [48]) := by
  rw [Bool.eq_iff_iff, decide_eq_true_eq, decide_eq_true_eq]
  exact ⟨fun e => by rw [V.str.inj e]; decide +kernel, fun e => by rw [show x = ("0" : Str) from ext_tl (by rw [e]; decide +kernel)]⟩
def sp__are_four_numbers (K : PySem.W.Frag) : Sp := fun vs H Q _ => ∃ (p : Addr) (xs : List Str), vs = [.ref p] ∧ SqL K H p (xs.map V.str) ∧ (∀ x ∈ xs, x.length ≤ 640) ∧ Q (.bl ((xs.map tl).all numB && decide (xs.length = 4))) H
def sp_is_host (K : PySem.W.Frag) : Sp := fun vs H Q _ => ∃ (v : V) (b : Bool), vs = [v] ∧ TxV hostB K H v b ∧ ∀ H', Same H H' → Q (.bl b) H'
theorem lastL_map {P : List Str} {z : Str} {P0 : List Str} (e : P = P0 ++ [z]) : lastL (P.map tl) = tl z := by
  rw [e, List.map_append]; exact lastL_snoc _ _
def sp__tells_host : Sp := fun vs H Q _ => ∃ x : Str, vs = [.str x] ∧ smallS x ∧ ∀ H' : Hp, Same H H' → Q (.bl (tellsL (lowL x))) H'
def sp__begins_host : Sp := fun vs H Q _ => ∃ x : Str, vs = [.str x] ∧ x.length ≤ 1000 ∧ ∀ H' : Hp, Same H H' → Q (.bl (beginsB (tl x))) H'
def tails3 : List Str := [("" : Str), "a", ".a"]
def sp__told_place : Sp := fun vs H Q _ => ∃ x : Str, vs = [.str x] ∧ smallS x ∧ ∀ (k : Nat) (H' : Hp), PlaceIs (lowL x) k → Same H H' → Q (.int (k : Nat)) H'
def sp_host_of (K : PySem.W.Frag) (mg : Str → Option Value) : Sp := fun vs H Q E => ∃ v : V, vs = [v] ∧
  ((∃ x : Str, v = .str x ∧ smallS x ∧ (tellsL (lowL x) = true → ∀ y H', tl y = stripDot (lowL x) → Same H H' → Q (.str y) H') ∧
    (tellsL (lowL x) = false → ∀ (k : Nat) (C d : Addr) (H' : Hp), PlaceIs (lowL x) k → mg "BadHost" = some (.ref C) → Same H H' → H' d = none → E (.ref C) (some d) (L2.upd H' d (.xd [(("place" : Str), .int (k : Nat))])))) ∨
   (∃ t : Value, TyX K H v t ∧ PySem.W.kitOne K t (.type "str") = some false ∧ ∀ (C d : Addr) (H' : Hp), mg "BadHost" = some (.ref C) → Same H H' → H' d = none → E (.ref C) (some d) (L2.upd H' d (.xd [(("place" : Str), .int 0)]))))
def sp__law_told (K : PySem.W.Frag) : Sp := fun vs H Q _ => ∃ v : V, vs = [v] ∧
  ((∃ x : Str, v = .str x ∧ smallS x ∧ ∀ r H', Same H H' → Ans03 H' (lowL x) r → Q r H') ∨
   (∃ t : Value, TyX K H v t ∧ PySem.W.kitOne K t (.type "str") = some false ∧ ∀ H', Same H H' → Q (.int 0) H'))
def sp_law (K : PySem.W.Frag) : Sp := fun vs H Q _ => ∃ (a : Addr) (ns : List Int), vs = [.ref a] ∧ SqL K H a (ns.map V.int) ∧ ns.length ≤ 63 ∧ ∀ H', Q (.bl true) H'
def IsD (m : List Nat) (d : PyData) : Prop := (tellsL m = true ∧ ∃ y : Str, d = .list [.str y] ∧ tl y = stripDot m) ∨ (tellsL m = false ∧ ∃ k : Nat, d = .int (k : Nat) ∧ PlaceIs m k)
theorem IsD.uniq {m : List Nat} {d e : PyData} (a : IsD m d) (b : IsD m e) : d = e := by
  rcases a with ⟨a1, y, rfl, a2⟩ | ⟨a1, k, rfl, a2⟩ <;> rcases b with ⟨b1, z, rfl, b2⟩ | ⟨b1, j, rfl, b2⟩
  · rw [ext_tl (a2.trans b2.symm)]
  · rw [a1] at b1; cases b1
  · rw [a1] at b1; cases b1
  · rw [a2.uniq b2]
theorem ans_repr {K : PySem.W.Frag} {H : Hp} {m : List Nat} {v : V} (h : Ans03 H m v) (hm : m.length ≤ 1000) (ha : ∀ s ∈ m, s < 128) : ∃ d, Dp K H v d ∧ d.showable = true ∧ d.hasDict = false ∧ d.shown.length ≤ sizeLine ∧ d.depth ≤ 64 ∧ IsD m d := by
  rcases h with ⟨h1, p, y, rfl, h2, h3⟩ | ⟨h1, k, rfl, h2⟩
  · refine ⟨.list [.str y], .lst (SqL.of h2) (.cons (.str y) .nil), rfl, rfl, ?_, by simp [PyData.depth, PyData.depthAll], .inl ⟨h1, y, rfl, h3⟩⟩
    have hy : ∀ c ∈ tl y, c < 16 ^ 8 := fun c hc => by
      rw [h3] at hc
      have : c ∈ m := by
        unfold stripDot at hc
        split at hc
        · exact (List.dropLast_sublist _).subset hc
        · exact hc
      have := ha c this
      omega
    have hl := PySem.StrLaws.reprText_len y hy
    have ly : y.length ≤ 1000 := by
      rw [len_tl, h3]
      exact Nat.le_trans strip_len hm
    have e : (PyData.list [.str y]).shown = ("[" : Str) ++ reprText y ++ ("]" : Str) := by
      simp only [PyData.shown, PyData.shownAll]
      have e0 : Str.ofString (if (0 : Nat) > 0 then ", " else "") = ("" : Str) := by decide +kernel
      show (("[" : Str) ++ Str.ofString (if (0 : Nat) > 0 then ", " else "") ++ reprText y) ++ ("]" : Str) = _
      rw [e0]
      refine ext_tl ?_
      simp only [tl_append]
      rw [show tl ("" : Str) = [] by decide +kernel, List.append_nil]
    rw [e, Str.length_append, Str.length_append]
    have b1 : ("[" : Str).length = 1 := by decide +kernel
    have b2 : ("]" : Str).length = 1 := by decide +kernel
    exact Nat.le_trans (by omega : _ ≤ 20000) (by decide)
  · have hk : k ≤ 1001 := by rcases h2 with ⟨e, _⟩ | ⟨_, e, _⟩ <;> omega
    refine ⟨.int (k : Nat), .int _, ?_, rfl, ?_, by simp [PyData.depth], .inr ⟨h1, k, rfl, h2⟩⟩
    · have h3 := Nat.log2_le_self k
      simp only [PyData.showable, Int.natAbs_natCast]
      exact decide_eq_true (by omega)
    · have := PyProof.Rows.toString_length_le (v := ((k : Nat) : Int)) (by omega) (k := 4) (by decide) (by
        have : ((10 : Int) ^ 4) = 10000 := by decide
        omega)
      exact Nat.le_trans this (by decide)
theorem ans_is {H : Hp} {m : List Nat} {v : V} {k : Nat} (h : Ans03 H m v) (h1 : tellsL m = false) (h2 : PlaceIs m k) : v = .int (k : Nat) := by
  rcases h with ⟨q, _⟩ | ⟨_, j, rfl, q⟩
  · rw [h1] at q; cases q
  · rw [q.uniq h2]
theorem place_empty : tellsL [] = false ∧ PlaceIs [] 1 := ⟨by decide +kernel, .inl ⟨rfl, fun j hj => absurd hj (Nat.not_lt_zero j)⟩⟩
theorem place_dot : tellsL [46] = false ∧ PlaceIs [46] 1 := ⟨by decide +kernel, .inr ⟨by decide, by decide, by decide +kernel, fun j hj => absurd hj (by omega)⟩⟩
theorem place_dots : tellsL [97, 46, 46] = false ∧ PlaceIs [97, 46, 46] 3 := ⟨by decide +kernel, .inr ⟨by decide, by decide, by decide +kernel, fun j hj => by
  rcases (by omega : j = 0 ∨ j = 1) with rfl | rfl <;> decide +kernel⟩⟩
section
variable {P : Program} {w : World} {K : PySem.W.Frag} {mg : Str → Option Value} {base : Heap}
theorem ok__law_draw (T : Txt K mg) : Cal P w K mg base CX0 1 "_law_draw" ["cell", "k"] sp__law_draw := by
  refine T.d__law_draw.ok0 sc__law_draw (fun vs H Q E h => ?_) (fun f cdv A outer s H vs Q E hr h => ?_)
  · first | (obtain ⟨_, rfl, _⟩ := h; rfl) | (obtain ⟨_, _, rfl, _⟩ := h; rfl) | (obtain ⟨_, _, _, rfl, _⟩ := h; rfl) | (obtain ⟨_, _, _, _, rfl, _⟩ := h; rfl) | (obtain ⟨_, _, _, _, _, rfl, _⟩ := h; rfl)
  · refine ⟨_, (pss_one (ps_ret (pe_disp (pps_cons pe_str (pe_ifExp (pt_cmpR (op_ge) (pv 0) (pe_op op_pow pe_int pe_int) (nomark _)) (pv 0) pe_int) (pps_cons pe_str (pv 0) (pps_cons pe_str (pe_op op_mul pe_int (pv 1)) pps_nil))) rfl rfl (by simp) (by decide)))), ?_⟩
    obtain ⟨c, k, rfl, hk0, hk1, hQ⟩ := h
    have fin : ∀ l : Int, 0 ≤ l → ∀ p, H p = none → Q (.ref p) (upd (upd H p (.dK [])) p (.dK (mergeK [] (dkv l c (1000 * k))))) := fun l hl p hp =>
      hQ _ _ (fun b o e => by rw [upd_ne (ne_of_none e hp), upd_ne (ne_of_none e hp)]; exact e) hp ⟨l, c, 1000 * k, by rw [upd_same, dkv_merge], hl, by omega, by omega⟩
    intro p hp
    refine ⟨_, rfl, _, _, rfl, rfl, ⟨by decide, by decide, by decide⟩, _, _, rfl, rfl, _, rfl, ?_⟩
    refine iteB (fun hb => ?_) (fun hb => ?_)
    · have hc : (10 : Int) ^ (18 : Int).toNat ≤ c := of_decide_eq_true hb
      have h0 : (0 : Int) ≤ (10 : Int) ^ (18 : Int).toNat := by decide
      refine ⟨_, rfl, _, rfl, _, rfl, _, _, rfl, rfl, .inl ⟨by decide, by decide⟩, upd_same, dkv c c (1000 * k), rfl, by show 3 ≤ 15; decide, fin c (by omega) p hp⟩
    · refine ⟨_, rfl, _, rfl, _, _, rfl, rfl, .inl ⟨by decide, by decide⟩, upd_same, dkv 0 c (1000 * k), rfl, by show 3 ≤ 15; decide, fin 0 (by omega) p hp⟩
theorem ok__law_mixed (T : Txt K mg) : Cal P w K mg base CX0 1 "_law_mixed" ["cell", "k"] sp__law_mixed := by
  refine T.d__law_mixed.ok0 sc__law_mixed (fun vs H Q E h => ?_) (fun f cdv A outer s H vs Q E hr h => ?_)
  · first | (obtain ⟨_, rfl, _⟩ := h; rfl) | (obtain ⟨_, _, rfl, _⟩ := h; rfl) | (obtain ⟨_, _, _, rfl, _⟩ := h; rfl) | (obtain ⟨_, _, _, _, rfl, _⟩ := h; rfl) | (obtain ⟨_, _, _, _, _, rfl, _⟩ := h; rfl)
  · refine ⟨_, (pss_cons (ps_set (i := 2) sc__law_mixed.nd rfl (by first | exact Or.inl rfl | exact Or.inr rfl) (pe_op op_add (pe_op op_add (pe_op op_mod (pe_callTy call_int1 (by rfl) T.b_int (by decide +kernel) (pa_cons (pv 0) pa_nil)) (pe_ix ix_list (pe_lst (pa_cons pe_int (pa_cons pe_int (pa_cons pe_int (pa_cons pe_int pa_nil))))) (pe_op op_mod (pe_callTy call_int1 (by rfl) T.b_int (by decide +kernel) (pa_cons (pv 1) pa_nil)) pe_int) (fun _ _ => rfl))) (pe_op op_mul pe_int (pv 1))) pe_int))
      (pss_one (ps_ret (pe_op op_mod (pe_callTy call_int1 (by rfl) T.b_int (by decide +kernel) (pa_cons (pe_op op_mul (pe_op op_mod (pe_callTy call_int1 (by rfl) T.b_int (by decide +kernel) (pa_cons (pe_op op_mul (pv 2) (pv 2)) pa_nil)) pe_int) pe_int) pa_nil)) pe_int)))), ?_⟩
    obtain ⟨c, k, rfl, hk0, hk1, hQ⟩ := h
    refine ⟨_, rfl, .inl ⟨_, rfl, ?_⟩⟩
    refine ⟨by show 4 ≤ sizeLine; decide, fun p hp => ?_⟩
    refine ⟨_, rfl, .inl ⟨_, rfl, ?_⟩⟩
    refine ⟨_, _, rfl, rfl, by show (0 : Int) < 4; decide, ?_⟩
    obtain ⟨v, hv, ha⟩ := menu (xs := [V.int 1000000007, V.int 998244353, V.int 2147483629, V.int 1000000009]) (i := k % 4) (by omega) (by show k % 4 < 4; omega)
    obtain ⟨m, rfl, hm0, hm1⟩ : ∃ m : Int, v = .int m ∧ 0 < m ∧ m < 2147483647 := by
      simp only [List.mem_cons, List.not_mem_nil, or_false] at hv
      rcases hv with rfl | rfl | rfl | rfl <;> exact ⟨_, rfl, by decide, by decide⟩
    refine ⟨p, _, _, _, rfl, rfl, SqL.of upd_same, ha, ?_⟩
    refine ⟨_, _, rfl, rfl, hm0, ?_⟩
    refine ⟨_, rfl, _, _, rfl, rfl, .inl ⟨by decide, by decide⟩, ?_⟩
    refine ⟨_, _, rfl, rfl, ?_⟩
    refine ⟨_, _, rfl, rfl, ?_⟩
    have h1 : 0 ≤ c % m := Int.emod_nonneg _ (by omega)
    have h2 : c % m < m := Int.emod_lt_of_pos _ hm0
    generalize c % m = q at h1 h2 ⊢
    refine ⟨_, rfl, _, rfl, _, _, rfl, rfl, .inl ⟨by show (-(2 ^ 64) : Int) < q + 7919 * k + 13; omega, by show q + 7919 * k + 13 < (2 ^ 64 : Int); omega⟩, ?_⟩
    refine .inl ⟨_, rfl, ?_⟩
    refine ⟨_, _, rfl, rfl, by show (0 : Int) < 2147483647; decide, ?_⟩
    refine ⟨_, _, rfl, rfl, .inr ⟨by decide, by decide⟩, ?_⟩
    refine .inl ⟨_, rfl, ?_⟩
    refine ⟨_, _, rfl, rfl, by show (0 : Int) < 2147483647; decide, ?_⟩
    exact hQ _ _ (Same.new hp) (Int.emod_nonneg _ (by decide)) (Int.emod_lt_of_pos _ (by decide))
theorem ok__law_digit (T : Txt K mg) : Cal P w K mg base CX0 2 "_law_digit" ["draw", "span"] sp__law_digit := by
  refine T.d__law_digit.ok0 sc__law_digit (fun vs H Q E h => ?_) (fun f cdv A outer s H vs Q E hr h => ?_)
  · first | (obtain ⟨_, rfl, _⟩ := h; rfl) | (obtain ⟨_, _, rfl, _⟩ := h; rfl) | (obtain ⟨_, _, _, rfl, _⟩ := h; rfl) | (obtain ⟨_, _, _, _, rfl, _⟩ := h; rfl) | (obtain ⟨_, _, _, _, _, rfl, _⟩ := h; rfl)
  · have hu := hu_of hr
    refine ⟨_, (Evl.pss_cut (ps_if (pt_cmpR (op_eq) (pe_dget hu (pv 0) pe_str (fun _ _ => rfl)) pe_int (nomark _))
      (pss_one (ps_for PassesOwn.never rfl (pi_range1 (by rfl) T.b_range (pa_cons pe_int pa_nil)) (pg_name (i := 2) sc__law_digit.nd rfl (by first | exact Or.inl rfl | exact Or.inr rfl))
      (pss_cons (ps_dput hu (pv 0) pe_str (pe_op op_add (pe_dget hu (pv 0) pe_str (fun _ _ => rfl)) pe_int) rfl)
      (pss_one (ps_dput hu (pv 0) pe_str (pe_op op_add (pe_op op_mul (pe_dget hu (pv 0) pe_str (fun _ _ => rfl)) pe_int) (pe_c (ok__law_mixed T) hr (by decide) (by rfl) pass0 (pa_cons (pe_dget hu (pv 0) pe_str (fun _ _ => rfl)) (pa_cons (pe_dget hu (pv 0) pe_str (fun _ _ => rfl)) pa_nil)))) rfl)))))
      pss_nil)
      (pss_cons (ps_set (i := 3) sc__law_digit.nd rfl (by first | exact Or.inl rfl | exact Or.inr rfl) (pe_op op_mod (pe_callTy call_int1 (by rfl) T.b_int (by decide +kernel) (pa_cons (pe_dget hu (pv 0) pe_str (fun _ _ => rfl)) pa_nil)) (pv 1)))
      (pss_cons (ps_dput hu (pv 0) pe_str (pe_op op_fdivW (pe_callTy call_int1 (by rfl) T.b_int (by decide +kernel) (pa_cons (pe_dget hu (pv 0) pe_str (fun _ _ => rfl)) pa_nil)) (pv 1)) rfl)
      (pss_one (ps_ret (pv 3)))))), ?_⟩
    obtain ⟨d, sp, n, rfl, hs0, hs1, ⟨l, c, t, hd, hl, ht, hn⟩, hQ⟩ := h
    refine ⟨fun σ' H' => ∃ (j : Option V) (l1 t1 : Int), σ' = [some (.ref d), some (.int sp), j, none] ∧ Keep d H H' ∧ H' d = some (.dK (dkv l1 c t1)) ∧ 0 ≤ l1 ∧ 0 ≤ t1 ∧ t1 + 4 * (n : Int) ≤ 1000000000, ?_, ?_⟩
    · refine ⟨_, rfl, d, _, rfl, dget_left hd, rfl, _, rfl, ?_⟩
      refine iteB (fun hb => ?_) (fun hb => ?_)
      · refine ⟨4, rfl, by decide, by decide, for_range (n := 4) (fun i σ H1 => ∃ (j : Option V) (l1 t1 : Int), σ = [some (.ref d), some (.int sp), j, none] ∧ Keep d H H1 ∧ H1 d = some (.dK (dkv l1 c t1)) ∧ 0 ≤ l1 ∧ 0 ≤ t1 ∧ t1 = t + i) ⟨none, l, t, rfl, Keep.refl, hd, hl, ht, by simp⟩ ?_ ?_⟩
        · rintro i σ H1 hi ⟨j, l1, t1, rfl, k1, h1, hl1, ht1, et⟩
          refine ⟨_, rfl, d, _, rfl, dget_turns h1, _, _, rfl, rfl, _, rfl, d, _, rfl, dput_turns _ h1, ?_⟩
          have h2 : (upd H1 d (.dK (dkv l1 c (t1 + 1)))) d = some (.dK (dkv l1 c (t1 + 1))) := upd_same
          refine ⟨_, rfl, d, _, rfl, dget_left h2, _, _, rfl, rfl, .inr ⟨by decide, by decide⟩, _, rfl, d, _, rfl, dget_cell h2, _, rfl, d, _, rfl, dget_turns h2, ?_⟩
          refine ⟨_, _, rfl, by omega, by omega, fun r H3 s3 hr0 hr1 => ?_⟩
          refine ⟨_, _, rfl, rfl, _, rfl, d, _, rfl, dput_left _ (s3 _ _ h2), ?_⟩
          exact ⟨_, _, _, rfl, ((k1.upd).same s3).upd, upd_same, by omega, by omega, by omega⟩
        · rintro σ H1 ⟨j, l1, t1, rfl, k1, h1, hl1, ht1, et⟩
          exact ⟨j, l1, t1, rfl, k1, h1, hl1, ht1, by omega⟩
      · exact ⟨none, l, t, rfl, Keep.refl, hd, hl, ht, by omega⟩
    · rintro σ' H1 ⟨j, l1, t1, rfl, k1, h1, hl1, ht1, ht2⟩
      refine ⟨_, rfl, d, _, rfl, dget_left h1, .inl ⟨_, rfl, _, rfl, _, _, rfl, rfl, hs0, ?_⟩⟩
      refine ⟨_, rfl, d, _, rfl, dget_left h1, .inl ⟨_, rfl, _, rfl, _, _, rfl, rfl, ?_, _, rfl, d, _, rfl, dput_left _ h1, ?_⟩⟩
      · exact wide_div (b := 32) hs0 (by omega) (by decide) (by decide)
      · exact ⟨_, rfl, hQ _ _ (Int.emod_nonneg _ (by omega)) (Int.emod_lt_of_pos _ hs0) k1.upd ⟨_, _, _, upd_same, Int.ediv_nonneg hl1 (by omega), ht1, ht2⟩⟩
theorem ok__law_label (T : Txt K mg) : Cal P w K mg base CX0 3 "_law_label" ["draw"] sp__law_label := by
  refine T.d__law_label.ok0 sc__law_label (fun vs H Q E h => ?_) (fun f cdv A outer s H vs Q E hr h => ?_)
  · first | (obtain ⟨_, rfl, _⟩ := h; rfl) | (obtain ⟨_, _, rfl, _⟩ := h; rfl) | (obtain ⟨_, _, _, rfl, _⟩ := h; rfl) | (obtain ⟨_, _, _, _, rfl, _⟩ := h; rfl) | (obtain ⟨_, _, _, _, _, rfl, _⟩ := h; rfl)
  · refine ⟨_, (pss_cons (ps_set (i := 1) sc__law_label.nd rfl (by first | exact Or.inl rfl | exact Or.inr rfl) (pe_ix ix_list (pe_lst (pa_cons pe_int (pa_cons pe_int (pa_cons pe_int (pa_cons pe_int (pa_cons pe_int (pa_cons pe_int pa_nil))))))) (pe_c (ok__law_digit T) hr (by decide) (by rfl) pass0 (pa_cons (pv 0) (pa_cons pe_int pa_nil))) (fun _ _ => rfl)))
      (pss_cons (ps_set (i := 2) sc__law_label.nd rfl (by first | exact Or.inl rfl | exact Or.inr rfl) (pe_join pe_str (pe_lc (own := [(("j" : Str), 3)]) rfl sc__law_label.nd (pi_range1 (by rfl) T.b_range (pa_cons (pv 1) pa_nil)) (blkOk_by (N := ["draw", "size", "signs", "j"]) (sc := defScope s__law_label) (by decide +kernel)) (fun _ _ _ _ _ => (pg_name (i := 3) sc__law_label.nd rfl (by first | exact Or.inl rfl | exact Or.inr rfl))) (fun _ _ _ _ _ => pts_nil) (fun _ _ _ _ _ => (pe_ix ix_str pe_str (pe_c (ok__law_digit T) hr (by decide) (by rfl) pass0 (pa_cons (pv 0) (pa_cons pe_int pa_nil))) (fun _ _ => rfl))))))
      (pss_one (ps_ret (pe_ifExp (PW.pt (pw_and (pt_cmpR (op_ne) (pe_ix ix_str (pv 2) pe_int (fun _ _ => rfl)) pe_str (nomark _)) (pw_and1 (pt_cmpR (op_ne) (pe_ix ix_str (pv 2) (pe_un un_neg pe_int) (fun _ _ => rfl)) pe_str (nomark _))))) (pv 2) (pe_op op_add_str (pe_op op_add_str pe_str (pe_slice sl_str (pv 2) (po_some pe_int) (po_some (pe_un un_neg pe_int)))) (pe_op op_mulS pe_str (pe_callTy call_int1 (by rfl) T.b_int (by decide +kernel) (pa_cons (pe_cmpR (op_gt) (pv 1) pe_int (nomark _)) pa_nil))))))))), ?_⟩
    obtain ⟨d, n, rfl, D, hQ⟩ := h
    refine ⟨by show 6 ≤ sizeLine; decide, fun p hp => ?_⟩
    have pd := D.ne hp
    refine ⟨_, rfl, d, 6, n + 29, rfl, by decide, by decide, (D.upd pd.symm).less (by omega), fun r H1 h0 h1 k1 D1 => ?_⟩
    obtain ⟨v, hv, ha⟩ := menu (xs := [V.int 1, V.int 1, V.int 2, V.int 3, V.int 19, V.int 20]) (i := r) h0 (by show r < 6; omega)
    obtain ⟨m, rfl, hm1, hm2⟩ : ∃ m : Nat, v = .int (m : Int) ∧ 1 ≤ m ∧ m ≤ 20 := by
      simp only [List.mem_cons, List.not_mem_nil, or_false] at hv
      rcases hv with rfl | rfl | rfl | rfl | rfl | rfl
      · exact ⟨1, rfl, by decide, by decide⟩
      · exact ⟨1, rfl, by decide, by decide⟩
      · exact ⟨2, rfl, by decide, by decide⟩
      · exact ⟨3, rfl, by decide, by decide⟩
      · exact ⟨19, rfl, by decide, by decide⟩
      · exact ⟨20, rfl, by decide, by decide⟩
    refine ⟨p, _, _, _, rfl, rfl, SqL.of (k1 _ _ upd_same pd), ha, ?_⟩
    have k1' : Keep d H H1 := Same.then (Same.new hp) k1
    refine ⟨⟨_, rfl⟩, _, rfl, _, rfl, by omega, by omega, fun L hL => ?_⟩
    have hdL : L ≠ d := D1.ne hL
    refine lc_range (n := ((m : Nat) : Int).toNat) (fun i H2 => ∃ W : List Str, W.length = i ∧ (∀ w ∈ W, ascii w ∧ (tl w).length ≤ 1) ∧ (∀ w ∈ W, (tl w).length = 1) ∧ H2 L = some (.lst (W.map V.str)) ∧ Keep d H1 H2 ∧ DrawAt H2 d (n + 29 - i)) ⟨[], rfl, by simp, by simp, upd_same, Keep.refl.updN hL, D1.upd hdL.symm⟩ ?_ ?_
    · rintro i H2 hi ⟨W, hW, hw, hw1, hl, kk, D2⟩
      refine ⟨rfl, ?_⟩
      refine ⟨_, rfl, d, 7, n + 29 - i - 1, rfl, by decide, by decide, D2.less (by omega), fun r H3 h0 h1 k3 D3 => ?_⟩
      obtain ⟨c, hc, hca⟩ := sign_at (z := ("abz019-" : Str)) h0 (by rw [show ("abz019-" : Str).length = 7 by decide +kernel]; omega) abz_ascii
      have hl3 : H3 L = some (.lst (W.map V.str)) := k3 L _ hl hdL
      refine ⟨_, _, c, rfl, rfl, by decide +kernel, hc, ?_⟩
      refine ⟨_, hl3, Nat.lt_of_le_of_lt (by rw [List.length_map]; omega : _ ≤ 1000) (by decide), W ++ [⟨#[c]⟩], by rw [List.length_append, hW]; rfl, fun w hw' => ?_, fun w hw' => ?_, by rw [upd_same, List.map_append]; rfl, (kk.trans k3).updN hL, (D3.less (by omega)).upd hdL.symm⟩
      · rcases List.mem_append.mp hw' with q | q
        · exact hw w q
        · rw [List.mem_singleton.mp q]; exact ⟨hca, Nat.le_refl 1⟩
      · rcases List.mem_append.mp hw' with q | q
        · exact hw1 w q
        · rw [List.mem_singleton.mp q]; rfl
    · rintro H2 ⟨W, hW, hw, hw1, hl, kk, D2⟩
      have hWl : W.length = m := by omega
      have e0 : ("" : Str).length = 0 := by decide +kernel
      have hs := words_len (W := W) (B := 1) fun x hx => (hw x hx).2
      refine ⟨_, L, W, rfl, rfl, .inl (SqL.of hl), by rw [e0]; omega, ?_⟩
      have aj : ascii (Txt.join ("" : Str) W) := ascii.join (fun s hs => by rw [show tl ("" : Str) = [] by decide +kernel] at hs; cases hs) fun x hx => (hw x hx).1
      have lj : (Txt.join ("" : Str) W).length = m := by
        rw [len_tl, join_tl, show tl ("" : Str) = [] by decide +kernel, joinE, List.length_flatten, List.map_map]
        have : ∀ W : List Str, (∀ w ∈ W, (tl w).length = 1) → (W.map (List.length ∘ tl)).sum = W.length := by
          intro W
          induction W with
          | nil => intro _; rfl
          | cons a W ih => intro h; rw [List.map_cons, List.sum_cons, ih fun w hw => h w (List.mem_cons_of_mem _ hw), List.length_cons]; have := h a (List.mem_cons_self ..); show (tl a).length + _ = _; omega
        rw [this W hw1, hWl]
      generalize Txt.join ("" : Str) W = x at aj lj ⊢
      have k02 := k1'.trans kk
      have D3 := D2.less (show n ≤ n + 29 - ((m : Nat) : Int).toNat by omega)
      obtain ⟨a, z, hza, hzz, _, _⟩ := ends_at (x := x) (by omega)
      have sz : x.length ≤ sizeLine := Nat.le_trans (by omega : _ ≤ 1000) (by decide)
      have fin : ∀ (c b : Str), tl c = tl (cutS x (some 1) (some (-1))) → (tl b).length ≤ 1 → ascii b → Q (.str ((("q" : Str) ++ cutS x (some 1) (some (-1))) ++ b)) H2 := fun c b _ hb ab =>
        hQ _ _ (by
          rw [Str.length_append, Str.length_append]
          have := cut_len (x := x) (lo := some 1) (hi := some (-1))
          have q1 : ("q" : Str).length = 1 := by decide +kernel
          rw [← len_tl] at hb
          omega) ((ascii.app (ascii_lit (by decide +kernel)) aj.cut).app ab) k02 D3
      have other : tOp (fun x y H Q => ∃ i j, x = V.str i ∧ y = V.str j ∧ i.length + j.length ≤ sizeLine ∧ Q (V.str (i ++ j)) H)
          (tOp (fun x y H Q => ∃ i j, x = V.str i ∧ y = V.str j ∧ i.length + j.length ≤ sizeLine ∧ Q (V.str (i ++ j)) H) (tC (V.str (Str.ofString "q"))) (tSl rSlS (tVar 2) (tPart (tC (V.int 1))) (tPart (tUn (rU fun i => V.int (-i)) (tC (V.int 1))))))
          (tOp rMulS (tC (V.str (Str.ofString "x"))) (tCB (fun xs H Q => (∃ i, xs = [V.int i] ∧ Q (V.int i) H) ∨ ∃ k, xs = [V.bl k] ∧ Q (V.int (if k = true then 1 else 0)) H) (tCons (tOp (rI0 fun i j => V.bl (decide (j < i))) (tVar 1) (tC (V.int 1))) tNil)))
          [some (.ref d), some (.int (m : Nat)), some (.str x), none] H2 Q := by
        have cl := cut_len (x := x) (lo := some 1) (hi := some (-1))
        have q1 : ("q" : Str).length = 1 := by decide +kernel
        refine ⟨_, rfl, _, rfl, _, rfl, _, rfl, x, rfl, sz, _, _, rfl, rfl, Nat.le_trans (by omega : _ ≤ 1000) (by decide), ?_⟩
        refine ⟨_, rfl, _, _, rfl, rfl, .inr ⟨_, rfl, ?_⟩⟩
        refine ⟨_, _, rfl, rfl, by split <;> decide, by split <;> decide, by decide +kernel, fun b eb => ?_⟩
        have hb : (tl b).length ≤ 1 := by
          rw [eb, PyProof.Rows.lm_len_rep_flat, show (tl ("x" : Str)).length = 1 by decide +kernel]
          split <;> decide
        refine ⟨_, _, rfl, rfl, Nat.le_trans (by rw [Str.length_append]; rw [← len_tl] at hb; omega : _ ≤ 1000) (by decide), fin _ b rfl hb (ascii.rep (ascii_lit (by decide +kernel)) eb)⟩
      refine ⟨_, rfl, x, _, a, rfl, rfl, sz, hza, rfl, _, rfl, iteB (fun h1 => ?_) (fun h1 => ?_)⟩
      · exact ⟨_, rfl, _, rfl, x, _, z, rfl, rfl, sz, hzz, rfl, _, rfl, iteB (fun h2 => ⟨_, rfl, hQ x _ (by omega) aj k02 D3⟩) fun h2 => other⟩
      · exact other
theorem ok__law_text (T : Txt K mg) : Cal P w K mg base CX0 4 "_law_text" ["draw"] sp__law_text := by
  refine T.d__law_text.ok0 sc__law_text (fun vs H Q E h => ?_) (fun f cdv A outer s H vs Q E hr h => ?_)
  · first | (obtain ⟨_, rfl, _⟩ := h; rfl) | (obtain ⟨_, _, rfl, _⟩ := h; rfl) | (obtain ⟨_, _, _, rfl, _⟩ := h; rfl) | (obtain ⟨_, _, _, _, rfl, _⟩ := h; rfl) | (obtain ⟨_, _, _, _, _, rfl, _⟩ := h; rfl)
  · refine ⟨_, (pss_cons (ps_set (i := 1) sc__law_text.nd rfl (by first | exact Or.inl rfl | exact Or.inr rfl) (pe_ix ix_list (pe_lst (pa_cons pe_int (pa_cons pe_int (pa_cons pe_int (pa_cons pe_int (pa_cons pe_int (pa_cons pe_int (pa_cons pe_int (pa_cons pe_int pa_nil))))))))) (pe_c (ok__law_digit T) hr (by decide) (by rfl) pass0 (pa_cons (pv 0) (pa_cons pe_int pa_nil))) (fun _ _ => rfl)))
      (pss_cons (ps_setLc (i := 2) (own := [(("j" : Str), 7)]) rfl sc__law_text.nd rfl rfl (sw_true rfl rfl rfl (by decide +kernel)) (pi_range1 (by rfl) T.b_range (pa_cons (pv 1) pa_nil)) (blkOk_by (N := ["draw", "many", "words", "text", "at", "sign", "way", "j"]) (sc := defScope s__law_text) (by decide +kernel)) (fun _ _ _ _ _ => (pg_name (i := 7) sc__law_text.nd rfl (by first | exact Or.inl rfl | exact Or.inr rfl))) (fun _ _ _ _ _ => pts_nil) (fun _ _ _ _ _ => (pe_c (ok__law_label T) hr (by decide) (by rfl) pass0 (pa_cons (pv 0) pa_nil))))
      (Evl.pss_cut (ps_if (pt_cmpR (op_eq) (pe_c (ok__law_digit T) hr (by decide) (by rfl) pass0 (pa_cons (pv 0) (pa_cons pe_int pa_nil))) pe_int (nomark _))
      (pss_one (ps_setLc (i := 2) (own := [(("j" : Str), 7)]) rfl sc__law_text.nd rfl rfl (sw_true rfl rfl rfl (by decide +kernel)) (pi_range1 (by rfl) T.b_range (pa_cons (pe_op op_add pe_int (pe_c (ok__law_digit T) hr (by decide) (by rfl) pass0 (pa_cons (pv 0) (pa_cons pe_int pa_nil)))) pa_nil)) (blkOk_by (N := ["draw", "many", "words", "text", "at", "sign", "way", "j"]) (sc := defScope s__law_text) (by decide +kernel)) (fun _ _ _ _ _ => (pg_name (i := 7) sc__law_text.nd rfl (by first | exact Or.inl rfl | exact Or.inr rfl))) (fun _ _ _ _ _ => pts_nil) (fun _ _ _ _ _ => (pe_ix (show IxR _ (rIxL K) from ix_list) (pe_lst (pa_cons pe_str (pa_cons pe_str (pa_cons pe_str (pa_cons pe_str (pa_cons pe_str (pa_cons pe_str pa_nil))))))) (pe_c (ok__law_digit T) hr (by decide) (by rfl) pass0 (pa_cons (pv 0) (pa_cons pe_int pa_nil))) (fun _ _ => rfl)))))
      pss_nil)
      (pss_cons (ps_set (i := 3) sc__law_text.nd rfl (by first | exact Or.inl rfl | exact Or.inr rfl) (pe_op op_add_str (pe_join pe_str (pv 2)) (pe_ix ix_list (pe_lst (pa_cons pe_str (pa_cons pe_str (pa_cons pe_str (pa_cons pe_str pa_nil))))) (pe_c (ok__law_digit T) hr (by decide) (by rfl) pass0 (pa_cons (pv 0) (pa_cons pe_int pa_nil))) (fun _ _ => rfl))))
      (Evl.pss_cut (ps_if (pt_cmpR (op_eq) (pe_c (ok__law_digit T) hr (by decide) (by rfl) pass0 (pa_cons (pv 0) (pa_cons pe_int pa_nil))) pe_int (nomark _))
      (pss_one (ps_set (i := 3) sc__law_text.nd rfl (by first | exact Or.inl rfl | exact Or.inr rfl) (pe_upper (pv 3))))
      pss_nil)
      (pss_cons (ps_par (i := 4) (j := 5) rfl sc__law_text.nd rfl rfl (by decide) rfl rfl (pa_cons (pe_c (ok__law_digit T) hr (by decide) (by rfl) pass0 (pa_cons (pv 0) (pa_cons (pe_op op_add (pe_callB call_len_str (by rfl) T.b_len (by decide +kernel) (pa_cons (pv 3) pa_nil)) pe_int) pa_nil))) (pa_cons (pe_ix ix_list (pe_lst (pa_cons pe_str (pa_cons pe_str (pa_cons pe_str (pa_cons pe_str (pa_cons pe_str (pa_cons pe_str (pa_cons pe_str (pa_cons pe_str pa_nil))))))))) (pe_c (ok__law_digit T) hr (by decide) (by rfl) pass0 (pa_cons (pv 0) (pa_cons pe_int pa_nil))) (fun _ _ => rfl)) pa_nil)) (by rfl))
      (pss_cons (ps_set (i := 6) sc__law_text.nd rfl (by first | exact Or.inl rfl | exact Or.inr rfl) (pe_c (ok__law_digit T) hr (by decide) (by rfl) pass0 (pa_cons (pv 0) (pa_cons pe_int pa_nil))))
      (pss_cons (ps_if (pt_cmpR (op_eq) (pv 6) pe_int (nomark _))
      (pss_one (ps_ret (pe_op op_add_str (pe_op op_add_str (pe_slice sl_str (pv 3) po_none (po_some (pv 4))) (pv 5)) (pe_slice sl_str (pv 3) (po_some (pv 4)) po_none))))
      pss_nil)
      (pss_cons (ps_if (pt_cmpR (op_eq) (pv 6) pe_int (nomark _))
      (pss_one (ps_ret (pe_op op_add_str (pe_op op_add_str (pe_slice sl_str (pv 3) po_none (po_some (pv 4))) (pv 5)) (pe_slice sl_str (pv 3) (po_some (pe_op op_add (pv 4) pe_int)) po_none))))
      pss_nil)
      (pss_one (ps_ret (pe_slice sl_str (pv 3) po_none (po_some pe_int))))))))))))), ?_⟩
    obtain ⟨d, n, rfl, D, hQ⟩ := h
    refine ⟨by show 8 ≤ sizeLine; decide, fun p hp => ?_⟩
    have pd := D.ne hp
    refine ⟨_, rfl, d, 8, n + 399, rfl, by decide, by decide, (D.upd pd.symm).less (by omega), fun r H1 h0 h1 k1 D1 => ?_⟩
    obtain ⟨v, hv, ha⟩ := menu (xs := [V.int 1, V.int 2, V.int 3, V.int 4, V.int 5, V.int 9, V.int 10, V.int 11]) (i := r) h0 (by show r < 8; omega)
    obtain ⟨m, rfl, hm1, hm2⟩ : ∃ m : Nat, v = .int (m : Int) ∧ 1 ≤ m ∧ m ≤ 11 := by
      simp only [List.mem_cons, List.not_mem_nil, or_false] at hv
      rcases hv with rfl | rfl | rfl | rfl | rfl | rfl | rfl | rfl
      · exact ⟨1, rfl, by decide, by decide⟩
      · exact ⟨2, rfl, by decide, by decide⟩
      · exact ⟨3, rfl, by decide, by decide⟩
      · exact ⟨4, rfl, by decide, by decide⟩
      · exact ⟨5, rfl, by decide, by decide⟩
      · exact ⟨9, rfl, by decide, by decide⟩
      · exact ⟨10, rfl, by decide, by decide⟩
      · exact ⟨11, rfl, by decide, by decide⟩
    refine ⟨p, _, _, _, rfl, rfl, SqL.of (k1 _ _ upd_same pd), ha, ?_⟩
    have k1' : Keep d H H1 := Same.then (Same.new hp) k1
    refine ⟨_, rfl, _, rfl, by omega, by omega, fun L hL => ?_⟩
    have hdL : L ≠ d := D1.ne hL
    refine lc_range (n := ((m : Nat) : Int).toNat) (fun i H2 => ∃ W : List Str, W.length = i ∧ (∀ w ∈ W, ascii w ∧ (tl w).length ≤ 22) ∧ H2 L = some (.lst (W.map V.str)) ∧ Keep d H1 H2 ∧ DrawAt H2 d (n + 399 - 30 * i)) ⟨[], rfl, by simp, upd_same, Keep.refl.updN hL, D1.upd hdL.symm⟩ ?_ ?_
    · rintro i H2 hi ⟨W, hW, hw, hl, kk, D2⟩
      refine ⟨rfl, ?_⟩
      refine ⟨_, rfl, d, n + 399 - 30 * i - 30, rfl, D2.less (by omega), fun x H3 hx ax k3 D3 => ?_⟩
      have hl3 : H3 L = some (.lst (W.map V.str)) := k3 L _ hl hdL
      refine ⟨_, hl3, Nat.lt_of_le_of_lt (by rw [List.length_map]; omega : _ ≤ 1000) (by decide), W ++ [x], by rw [List.length_append, hW]; rfl, fun w hw' => ?_, by rw [upd_same, List.map_append]; rfl, (kk.trans k3).updN hL, (D3.less (by omega)).upd hdL.symm⟩
      rcases List.mem_append.mp hw' with q | q
      · exact hw w q
      · rw [List.mem_singleton.mp q]; exact ⟨ax, by rw [← len_tl]; exact hx⟩
    · rintro H2 ⟨W, hW, hw, hl, kk, D2⟩
      have k02 := k1'.trans kk
      have D2' := D2.less (show n + 60 ≤ n + 399 - 30 * ((m : Nat) : Int).toNat by omega)
      have dot1 : ("." : Str).length = 1 := by decide +kernel
      refine ⟨fun σ' H' => ∃ (v7 : Option V) (L : Addr) (W : List Str), σ' = [some (.ref d), some (.int (m : Nat)), some (.ref L), none, none, none, none, v7] ∧ W.length ≤ 11 ∧ (∀ w ∈ W, ascii w ∧ (tl w).length ≤ 22) ∧ H' L = some (.lst (W.map V.str)) ∧ L ≠ d ∧ Keep d H H' ∧ DrawAt H' d (n + 40), ?_, ?_⟩
      · refine ⟨_, rfl, d, 4, n + 59, rfl, by decide, by decide, D2', fun r H3 h03 h13 k3 D3 => ?_⟩
        have hl3 := k3 _ _ hl hdL
        refine ⟨rfl, _, rfl, iteB (fun hz => ?_) (fun hz => ⟨_, L, W, rfl, by omega, hw, hl3, hdL, k02.trans k3, D3.less (by omega)⟩)⟩
        refine ⟨_, rfl, d, 3, n + 58, rfl, by decide, by decide, D3, fun r4 H4 h04 h14 k4 D4 => ?_⟩
        obtain ⟨m4, rfl⟩ : ∃ m4 : Nat, r4 = (m4 : Int) := ⟨r4.toNat, by omega⟩
        refine ⟨_, _, rfl, rfl, _, rfl, by omega, by omega, fun L2 hL2 => ?_⟩
        have hdL2 : L2 ≠ d := D4.ne hL2
        refine lc_range (n := ((3 : Int) + (m4 : Int)).toNat) (fun i H5 => ∃ W : List Str, W.length = i ∧ (∀ w ∈ W, ascii w ∧ (tl w).length ≤ 22) ∧ H5 L2 = some (.lst (W.map V.str)) ∧ Keep d H4 H5 ∧ DrawAt H5 d (n + 58 - i)) ⟨[], rfl, by simp, upd_same, Keep.refl.updN hL2, D4.upd hdL2.symm⟩ ?_ ?_
        · rintro i H5 hi ⟨W, hW, hw, hl, kk, D5⟩
          refine ⟨rfl, ?_⟩
          refine ⟨by show 6 ≤ sizeLine; decide, fun p6 hp6 => ?_⟩
          have pd6 := D5.ne hp6
          refine ⟨_, rfl, d, 6, n + 58 - i - 1, rfl, by decide, by decide, (D5.upd pd6.symm).less (by omega), fun r H6 h06 h16 k6 D6 => ?_⟩
          obtain ⟨v, hv, ha⟩ := menu (xs := [V.str "0", V.str "7", V.str "255", V.str "256", V.str "00", V.str "9"]) (i := r) h06 (by show r < 6; omega)
          obtain ⟨x, rfl, ax, hx⟩ : ∃ x : Str, v = .str x ∧ ascii x ∧ (tl x).length ≤ 22 := by
            simp only [List.mem_cons, List.not_mem_nil, or_false] at hv
            rcases hv with rfl | rfl | rfl | rfl | rfl | rfl <;> exact ⟨_, rfl, ascii_lit (by decide +kernel), by decide +kernel⟩
          have hl6 : H6 L2 = some (.lst (W.map V.str)) := k6 L2 _ (by rw [upd_ne (ne_of_none hl hp6)]; exact hl) hdL2
          refine ⟨p6, _, _, _, rfl, rfl, SqL.of (k6 _ _ upd_same pd6), ha, ?_⟩
          refine ⟨_, hl6, Nat.lt_of_le_of_lt (by rw [List.length_map]; omega : _ ≤ 1000) (by decide), W ++ [x], by rw [List.length_append, hW]; rfl, fun w hw' => ?_, by rw [upd_same, List.map_append]; rfl, (kk.trans (Same.then (Same.new hp6) k6)).updN hL2, (D6.less (by omega)).upd hdL2.symm⟩
          rcases List.mem_append.mp hw' with q | q
          · exact hw w q
          · rw [List.mem_singleton.mp q]; exact ⟨ax, hx⟩
        · rintro H5 ⟨W, hW, hw, hl, kk, D5⟩
          exact ⟨_, L2, W, rfl, by omega, hw, hl, hdL2, ((k02.trans k3).trans k4).trans kk, D5.less (by omega)⟩
      · rintro σ' H3 ⟨v7, L, W, rfl, hWl, hw, hl, hdL, k03, D3⟩
        have hs := words_len (W := W) (B := 22) fun x hx => (hw x hx).2
        have aj : ascii (Txt.join ("." : Str) W) := ascii.join (ascii_lit (by decide +kernel)) fun x hx => (hw x hx).1
        have lj : (Txt.join ("." : Str) W).length ≤ 253 := by
          rw [len_tl, words_join]
          have := joinL_len (c := 46) (B := 22) (W.map tl) fun l hl => by obtain ⟨w, hw', rfl⟩ := List.mem_map.mp hl; exact (hw w hw').2
          rw [List.length_map] at this
          omega
        refine ⟨⟨_, rfl⟩, _, rfl, _, L, W, rfl, rfl, .inl (SqL.of hl), by rw [dot1]; omega, by show 4 ≤ sizeLine; decide, fun p6 hp6 => ?_⟩
        generalize Txt.join ("." : Str) W = x0 at aj lj ⊢
        have pd6 := D3.ne hp6
        refine ⟨_, rfl, d, 4, n + 39, rfl, by decide, by decide, (D3.upd pd6.symm).less (by omega), fun r H6 h06 h16 k6 D6 => ?_⟩
        obtain ⟨v, hv, ha⟩ := menu (xs := [V.str "", V.str "", V.str ".", V.str ".."]) (i := r) h06 (by show r < 4; omega)
        obtain ⟨y, rfl, ay, hy⟩ : ∃ x : Str, v = .str x ∧ ascii x ∧ x.length ≤ 2 := by
          simp only [List.mem_cons, List.not_mem_nil, or_false] at hv
          rcases hv with rfl | rfl | rfl | rfl <;> exact ⟨_, rfl, ascii_lit (by decide +kernel), by decide +kernel⟩
        refine ⟨p6, _, _, _, rfl, rfl, SqL.of (k6 _ _ upd_same pd6), ha, _, _, rfl, rfl, Nat.le_trans (by omega : _ ≤ 1000) (by decide), ?_⟩
        have k06 := k03.trans (Same.then (Same.new hp6) k6)
        have ax1 := aj.app ay
        have lx1 : (x0 ++ y).length ≤ 255 := by rw [Str.length_append]; omega
        generalize x0 ++ y = x1 at ax1 lx1
        refine ⟨fun σ' H' => ∃ (x : Str), σ' = [some (.ref d), some (.int (m : Nat)), some (.ref L), some (.str x), none, none, none, v7] ∧ ascii x ∧ x.length ≤ 255 ∧ Keep d H H' ∧ DrawAt H' d (n + 38), ?_, ?_⟩
        · refine ⟨_, rfl, d, 3, n + 38, rfl, by decide, by decide, D6.less (by omega), fun r H7 h07 h17 k7 D7 => ?_⟩
          refine ⟨rfl, _, rfl, iteB (fun hz => ?_) (fun hz => ⟨_, rfl, ax1, lx1, k06.trans k7, D7⟩)⟩
          have := ax1.up
          exact ⟨_, rfl, ⟨_, rfl⟩, _, rfl, rfl, Nat.le_trans lx1 (by decide), _, rfl, this.1, by rw [this.2]; exact lx1, k06.trans k7, D7⟩
        · rintro σ' H7 ⟨x, rfl, ax, lx, k7, D7⟩
          have sz : x.length ≤ sizeLine := Nat.le_trans (by omega : _ ≤ 1000) (by decide)
          refine ⟨_, rfl, _, rfl, x, rfl, sz, _, _, rfl, rfl, d, _, n + 37, rfl, by omega, by omega, D7, fun at1 H8 h08 h18 k8 D8 => ?_⟩
          refine ⟨by show 8 ≤ sizeLine; decide, fun p9 hp9 => ?_⟩
          have pd9 := D8.ne hp9
          refine ⟨_, rfl, d, 8, n + 36, rfl, by decide, by decide, D8.upd pd9.symm, fun r H9 h09 h19 k9 D9 => ?_⟩
          obtain ⟨v, hv, ha⟩ := menu (xs := [V.str "", V.str ".", V.str "-", V.str "B", V.str "_", V.str "0", V.str " ", V.str "/"]) (i := r) h09 (by show r < 8; omega)
          obtain ⟨y2, rfl, ay2, hy2⟩ : ∃ x : Str, v = .str x ∧ ascii x ∧ x.length ≤ 2 := by
            simp only [List.mem_cons, List.not_mem_nil, or_false] at hv
            rcases hv with rfl | rfl | rfl | rfl | rfl | rfl | rfl | rfl <;> exact ⟨_, rfl, ascii_lit (by decide +kernel), by decide +kernel⟩
          refine ⟨p9, _, _, _, rfl, rfl, SqL.of (k9 _ _ upd_same pd9), ha, _, _, rfl, ?_⟩
          have k09 := (k7.trans k8).trans (Same.then (Same.new hp9) k9)
          refine ⟨_, rfl, d, 6, n + 35, rfl, by decide, by decide, D9, fun way H10 h010 h110 k10 D10 => ?_⟩
          have k010 := k09.trans k10
          have D10' := D10.less (show n ≤ n + 35 by omega)
          have fin : ∀ lo1 hi1 lo2 hi2 : Option Int, Q (.str ((cutS x lo1 hi1 ++ y2) ++ cutS x lo2 hi2)) H10 ∨ ¬ (((cutS x lo1 hi1 ++ y2) ++ cutS x lo2 hi2).length ≤ 300) := fun lo1 hi1 lo2 hi2 => by
            by_cases g : ((cutS x lo1 hi1 ++ y2) ++ cutS x lo2 hi2).length ≤ 300
            · exact .inl (hQ _ _ g ((ax.cut.app ay2).app ax.cut) k010 D10')
            · exact .inr g
          have hat : at1.toNat ≤ x.length := by omega
          have c1 : (cutS x none (some at1)).length = at1.toNat := by rw [len_tl, cutS_to x h08, List.length_take, ← len_tl]; omega
          have c2 : (cutS x (some at1) none).length = x.length - at1.toNat := by rw [len_tl, cutS_from x h08, List.length_drop, ← len_tl]
          have c3 : (cutS x (some (at1 + 1)) none).length ≤ x.length - at1.toNat := by rw [len_tl, cutS_from x (by omega), List.length_drop, ← len_tl]; omega
          refine ⟨_, rfl, rfl, _, rfl, iteB (fun h1 => ?_) (fun h1 => ?_)⟩
          · refine ⟨_, rfl, _, rfl, _, rfl, x, rfl, sz, _, rfl, _, _, rfl, rfl, Nat.le_trans (by omega : _ ≤ 1000) (by decide), _, rfl, _, rfl, _, rfl, x, rfl, sz, _, _, rfl, rfl, Nat.le_trans (by rw [Str.length_append]; omega : _ ≤ 1000) (by decide), ?_⟩
            exact (fin _ _ _ _).resolve_right fun g => g (by rw [Str.length_append, Str.length_append]; omega)
          · refine ⟨_, rfl, rfl, _, rfl, iteB (fun h2 => ?_) (fun h2 => ?_)⟩
            · refine ⟨_, rfl, _, rfl, _, rfl, x, rfl, sz, _, rfl, _, _, rfl, rfl, Nat.le_trans (by omega : _ ≤ 1000) (by decide), _, rfl, _, rfl, _, _, rfl, rfl, _, rfl, x, rfl, sz, _, _, rfl, rfl, Nat.le_trans (by rw [Str.length_append]; omega : _ ≤ 1000) (by decide), ?_⟩
              exact (fin _ _ _ _).resolve_right fun g => g (by rw [Str.length_append, Str.length_append]; omega)
            · have := cut_len (x := x) (lo := none) (hi := some 102)
              exact ⟨_, rfl, _, rfl, x, rfl, sz, hQ _ _ (by omega) ax.cut k010 D10'⟩
theorem ok__law_is_label (T : Txt K mg) : Cal P w K mg base CX0 1 "_law_is_label" ["text"] sp__law_is_label := by
  refine T.d__law_is_label.ok0 sc__law_is_label (fun vs H Q E h => ?_) (fun f cdv A outer s H vs Q E hr h => ?_)
  · first | (obtain ⟨_, rfl, _⟩ := h; rfl) | (obtain ⟨_, _, rfl, _⟩ := h; rfl) | (obtain ⟨_, _, _, rfl, _⟩ := h; rfl) | (obtain ⟨_, _, _, _, rfl, _⟩ := h; rfl) | (obtain ⟨_, _, _, _, _, rfl, _⟩ := h; rfl)
  · refine ⟨_, (pss_cons (ps_if (PW.pt (pw_or (pt_cmpR (op_lt) (pe_callB call_len_str (by rfl) T.b_len (by decide +kernel) (pa_cons (pv 0) pa_nil)) pe_int (nomark _)) (pw_or (pt_cmpR (op_gt) (pe_callB call_len_str (by rfl) T.b_len (by decide +kernel) (pa_cons (pv 0) pa_nil)) pe_int (nomark _)) (pw_or (pt_cmpR (op_eq) (pe_ix ix_str (pv 0) pe_int (fun _ _ => rfl)) pe_str (nomark _)) (pw_or1 (pt_cmpR (op_eq) (pe_ix ix_str (pv 0) (pe_un un_neg pe_int) (fun _ _ => rfl)) pe_str (nomark _)))))))
      (pss_one (ps_ret pe_bl))
      pss_nil)
      (pss_one (ps_ret (pe_cmpR (op_eqD hr.units) (pe_lc (own := [(("sign" : Str), 1)]) rfl sc__law_is_label.nd (pi_str (pv 0)) (blkOk_by (N := ["text", "sign"]) (sc := defScope s__law_is_label) (by decide +kernel)) (fun _ _ _ _ _ => (pg_name (i := 1) sc__law_is_label.nd rfl (by first | exact Or.inl rfl | exact Or.inr rfl))) (fun _ _ _ _ _ => (pts_one (pt_cmpR (op_notIn_sign) (pv 1) pe_str rfl))) (fun _ _ _ _ _ => (pv 1))) (pe_lst pa_nil) (nomark _))))), ?_⟩
    obtain ⟨x, rfl, ⟨hx, ax⟩, hQ⟩ := h
    have sz : x.length ≤ sizeLine := Nat.le_trans (by omega : _ ≤ 1000) (by decide)
    have no : labB (tl x) = false → Q (.bl false) H := fun e => by have := hQ _ (Same.refl _); rw [e] at this; exact this
    refine ⟨_, rfl, x, rfl, sz, _, _, rfl, rfl, _, rfl, iteB (fun h1 => ?_) (fun h1 => ?_)⟩
    · have h1 : (x.length : Int) < 1 := of_decide_eq_true h1
      refine no ?_
      unfold labB onlyB
      have : tl x = [] := List.eq_nil_of_length_eq_zero (by rw [← len_tl]; omega)
      rw [this]; rfl
    have h1 : ¬ (x.length : Int) < 1 := of_decide_eq_false h1
    refine ⟨_, rfl, x, rfl, sz, _, _, rfl, rfl, _, rfl, iteB (fun h2 => ?_) (fun h2 => ?_)⟩
    · have h2 : (20 : Int) < (x.length : Int) := of_decide_eq_true h2
      refine no ?_
      unfold labB
      rw [decide_eq_false (by rw [← len_tl]; omega), Bool.false_and]
    have h2 : ¬ (20 : Int) < (x.length : Int) := of_decide_eq_false h2
    obtain ⟨a, z, hza, hzz, e1, e2⟩ := ends_at (x := x) (by omega)
    unfold labB at hQ
    rw [decide_eq_true (by rw [← len_tl]; omega : (tl x).length ≤ 20), Bool.true_and, e1, e2] at hQ
    refine ⟨_, rfl, x, _, a, rfl, rfl, sz, hza, rfl, _, rfl, ?_⟩
    rw [one_dash2]
    cases h3 : decide (a = 45) with
    | true =>
      have : decide (some a ≠ some 45) = false := by have := of_decide_eq_true h3; simp [this]
      have q := hQ _ (Same.refl _)
      rw [this, Bool.false_and, Bool.and_false] at q
      exact iteT q
    | false =>
      have e3 : decide (some a ≠ some 45) = true := by have := of_decide_eq_false h3; simp [this]
      rw [e3, Bool.true_and] at hQ
      refine iteF ⟨_, rfl, _, rfl, x, _, z, rfl, rfl, sz, hzz, rfl, _, rfl, ?_⟩
      rw [one_dash2]
      cases h4 : decide (z = 45) with
      | true =>
        have : decide (some z ≠ some 45) = false := by have := of_decide_eq_true h4; simp [this]
        have q := hQ _ (Same.refl _)
        rw [this, Bool.and_false] at q
        exact iteT q
      | false =>
        have e4 : decide (some z ≠ some 45) = true := by have := of_decide_eq_false h4; simp [this]
        rw [e4, Bool.and_true] at hQ
        refine iteF ⟨_, rfl, _, rfl, fun L hL => lc_str (z := x) (fun i H1 => ∃ W : List Str, H1 L = some (.lst (W.map V.str)) ∧ W.length ≤ i ∧ (∀ w ∈ W, ascii w) ∧ (W = [] ↔ ((tl x).take i).all (fun c => decide (c ∈ lsig)) = true) ∧ Same H H1) ⟨[], upd_same, Nat.le_refl _, by simp, by simp, Same.new hL⟩ ?_ ?_⟩
        · rintro i c H1 hi ⟨W, hl, hW, hWa, hWe, s1⟩
          refine ⟨rfl, _, rfl, _, _, rfl, rfl, _, rfl, ?_⟩
          rw [tl_lsig2]
          have hin := all_take1 (p := fun c => decide (c ∈ lsig)) hi
          cases hc : decide (c ∈ lsig) with
          | true =>
            rw [hc, Bool.and_true] at hin
            exact iteF ⟨W, hl, by omega, hWa, by rw [hin]; exact hWe, s1⟩
          | false =>
            rw [hc, Bool.and_false] at hin
            refine iteT ⟨_, rfl, _, hl, Nat.lt_of_le_of_lt (by rw [List.length_map]; have := (List.getElem?_eq_some_iff.mp hi).1; rw [← len_tl] at this; omega : _ ≤ 1000) (by decide), W ++ [⟨#[c]⟩], by rw [upd_same, List.map_append]; rfl, by rw [List.length_append, List.length_singleton]; omega, fun w hw => ?_, by rw [hin]; simp, Same.put s1 hL⟩
            rcases List.mem_append.mp hw with q | q
            · exact hWa w q
            · rw [List.mem_singleton.mp q]; exact ascii_mem ax hi
        · rintro H1 ⟨W, hl, hW, hWa, hWe, s1⟩
          refine ⟨by show 0 ≤ sizeLine; decide, fun L2 hL2 => ?_⟩
          have s2 := s1.trans (Same.new (o := HO.lst []) hL2)
          refine ⟨_, _, dp_strs (SqL.of ((Same.new (o := HO.lst []) hL2) _ _ hl)), dp_strs (ys := []) (SqL.of upd_same), lay_strs hWa, lay_strs (W := []) (by simp), ?_⟩
          rw [eqv_nil]
          have q := hQ _ s2
          have e : onlyB lsig (tl x) = decide (W = []) := by
            unfold onlyB
            rw [List.take_length] at hWe
            rw [Bool.eq_iff_iff, Bool.and_eq_true, decide_eq_true_eq, decide_eq_true_eq, hWe]
            refine ⟨fun g => g.1, fun g => ⟨g, fun e => ?_⟩⟩
            rw [len_tl, e] at h1
            simp at h1
          rw [e] at q
          exact q
theorem ok__law_is_numeric (T : Txt K mg) : Cal P w K mg base CX0 1 "_law_is_numeric" ["text"] sp__law_is_numeric := by
  refine T.d__law_is_numeric.ok0 sc__law_is_numeric (fun vs H Q E h => ?_) (fun f cdv A outer s H vs Q E hr h => ?_)
  · first | (obtain ⟨_, rfl, _⟩ := h; rfl) | (obtain ⟨_, _, rfl, _⟩ := h; rfl) | (obtain ⟨_, _, _, rfl, _⟩ := h; rfl) | (obtain ⟨_, _, _, _, rfl, _⟩ := h; rfl) | (obtain ⟨_, _, _, _, _, rfl, _⟩ := h; rfl)
  · refine ⟨_, (pss_one (ps_ret (pe_cmpR (op_in_seq) (pv 0) (pe_lc (own := [(("j" : Str), 1)]) rfl sc__law_is_numeric.nd (pi_range1 (by rfl) T.b_range (pa_cons pe_int pa_nil)) (blkOk_by (N := ["text", "j"]) (sc := defScope s__law_is_numeric) (by decide +kernel)) (fun _ _ _ _ _ => (pg_name (i := 1) sc__law_is_numeric.nd rfl (by first | exact Or.inl rfl | exact Or.inr rfl))) (fun _ _ _ _ _ => pts_nil) (fun _ _ _ _ _ => (pe_callTy call_str_int (by rfl) T.b_str (by decide +kernel) (pa_cons (pv 1) pa_nil)))) (by with_unfolding_all rfl)))), ?_⟩
    obtain ⟨x, rfl, hQ⟩ := h
    refine ⟨_, rfl, 256, rfl, by decide, by decide, fun L hL => ?_⟩
    refine lc_range (n := 256) (fun i H1 => H1 L = some (.lst (((List.range i).map numS).map V.str)) ∧ Same H H1) ⟨upd_same, Same.new hL⟩ ?_ ?_
    · rintro i H1 hi ⟨hl, s1⟩
      refine ⟨rfl, ?_⟩
      refine ⟨_, rfl, _, rfl, ?_, ?_⟩
      · have : ((0 : Int) + (i : Int)).natAbs = i := by omega
        rw [this]
        have h1 := Nat.log2_le_self i
        omega
      refine ⟨_, hl, Nat.lt_of_le_of_lt (by rw [List.length_map, List.length_map, List.length_range]; omega : _ ≤ 1000) (by decide), ?_, Same.put s1 hL⟩
      rw [upd_same, List.range_succ, List.map_append, List.map_append]
      rfl
    · rintro H1 ⟨hl, s1⟩
      refine ⟨L, _, rfl, .inl (SqL.of hl), rfl, flat_strs _, ?_⟩
      rw [in_strs]
      have q := hQ _ s1
      have e : numB (tl x) = decide (x ∈ (List.range 256).map numS) := by
        rw [Bool.eq_iff_iff, numB_iff, decide_eq_true_eq, List.mem_map]
        constructor
        · rintro ⟨j, hj, e⟩
          refine ⟨j, List.mem_range.mpr hj, ext_tl ?_⟩
          unfold numS
          rw [Int.zero_add, tl_num, e]
        · rintro ⟨j, hj, rfl⟩
          refine ⟨j, List.mem_range.mp hj, ?_⟩
          unfold numS
          rw [Int.zero_add, tl_num]
      rw [e] at q
      exact q
theorem ok__law_is_host (T : Txt K mg) : Cal P w K mg base CX0 2 "_law_is_host" ["text"] sp__law_is_host := by
  refine T.d__law_is_host.ok0 sc__law_is_host (fun vs H Q E h => ?_) (fun f cdv A outer s H vs Q E hr h => ?_)
  · first | (obtain ⟨_, rfl, _⟩ := h; rfl) | (obtain ⟨_, _, rfl, _⟩ := h; rfl) | (obtain ⟨_, _, _, rfl, _⟩ := h; rfl) | (obtain ⟨_, _, _, _, rfl, _⟩ := h; rfl) | (obtain ⟨_, _, _, _, _, rfl, _⟩ := h; rfl)
  · refine ⟨_, (pss_cons (ps_set (i := 1) sc__law_is_host.nd rfl (by first | exact Or.inl rfl | exact Or.inr rfl) (pe_split (pv 0) pe_str))
      (pss_cons (ps_if (PW.pt (pw_or (pt_cmpR (op_gt) (pe_callB call_len_str (by rfl) T.b_len (by decide +kernel) (pa_cons (pv 0) pa_nil)) pe_int (nomark _)) (pw_or (pt_cmpR (op_gt) (pe_callB call_len_seq (by rfl) T.b_len (by decide +kernel) (pa_cons (pv 1) pa_nil)) pe_int (nomark _)) (pw_or1 (pt_cmpR (op_neD hr.units) (pe_lc (own := [(("word" : Str), 2)]) rfl sc__law_is_host.nd (pi_list (pv 1)) (blkOk_by (N := ["text", "words", "word", "sign"]) (sc := defScope s__law_is_host) (by decide +kernel)) (fun _ _ _ _ _ => (pg_name (i := 2) sc__law_is_host.nd rfl (by first | exact Or.inl rfl | exact Or.inr rfl))) (fun _ _ _ _ _ => (pts_one (pt_not (pt_val (pe_c (ok__law_is_label T) hr (by decide) (by rfl) pass0 (pa_cons (pv 2) pa_nil)))))) (fun _ _ _ _ _ => (pv 2))) (pe_lst pa_nil) (nomark _))))))
      (pss_one (ps_ret pe_bl))
      pss_nil)
      (pss_cons (ps_if (pt_cmpR (op_neD hr.units) (pe_lc (own := [(("sign" : Str), 3)]) rfl sc__law_is_host.nd (pi_str (pe_ix ix_list (pv 1) (pe_un un_neg pe_int) (fun _ _ => rfl))) (blkOk_by (N := ["text", "words", "word", "sign"]) (sc := defScope s__law_is_host) (by decide +kernel)) (fun _ _ _ _ _ => (pg_name (i := 3) sc__law_is_host.nd rfl (by first | exact Or.inl rfl | exact Or.inr rfl))) (fun _ _ _ _ _ => (pts_one (pt_cmpR (op_notIn_sign) (pv 3) pe_str rfl))) (fun _ _ _ _ _ => (pv 3))) (pe_lst pa_nil) (nomark _))
      (pss_one (ps_ret pe_bl))
      pss_nil)
      (pss_one (ps_ret (pe_and (pe_cmpR (op_eq) (pe_callB call_len_seq (by rfl) T.b_len (by decide +kernel) (pa_cons (pv 1) pa_nil)) pe_int (nomark _)) (pe_one (pe_cmpR (op_eqD hr.units) (pe_lc (own := [(("word" : Str), 2)]) rfl sc__law_is_host.nd (pi_list (pv 1)) (blkOk_by (N := ["text", "words", "word", "sign"]) (sc := defScope s__law_is_host) (by decide +kernel)) (fun _ _ _ _ _ => (pg_name (i := 2) sc__law_is_host.nd rfl (by first | exact Or.inl rfl | exact Or.inr rfl))) (fun _ _ _ _ _ => (pts_one (pt_not (pt_val (pe_c (ok__law_is_numeric T) hr (by decide) (by rfl) pass0 (pa_cons (pv 2) pa_nil)))))) (fun _ _ _ _ _ => (pv 2))) (pe_lst pa_nil) (nomark _))))))))), ?_⟩
    obtain ⟨x, rfl, ⟨hx, ax⟩, hQ⟩ := h
    have sz : x.length ≤ sizeLine := Nat.le_trans (by omega : _ ≤ 1000) (by decide)
    refine ⟨_, rfl, ⟨_, rfl⟩, _, _, rfl, rfl, by decide +kernel, Nat.le_trans (by omega : _ ≤ 100000) (by decide), fun p hp => ?_⟩
    have es := split_sp1 x (c := 46) (by decide)
    have ml : ∀ p ∈ Txt.split x ⟨#[46]⟩, p.length ≤ 1000 := fun p hp => Nat.le_trans (split_mem_len (c := 46) (by decide) hp) hx
    have ma : ∀ p ∈ Txt.split x ⟨#[46]⟩, ascii p := fun p hp s hs => ax s (split_mem (by decide) hp s hs)
    have ll := split_length x (c := 46) (by decide)
    rw [← dot_eq] at es ml ma ll
    generalize hP : Txt.split x ("." : Str) = P at *
    have s1 := Same.new (o := HO.lst (P.map V.str)) hp
    have m1 : (upd H p (.lst (P.map V.str))) p = some (.lst (P.map V.str)) := upd_same
    generalize upd H p (.lst (P.map V.str)) = H1 at s1 m1 ⊢
    unfold hostB hostL at hQ
    rw [← es] at hQ
    rw [← len_tl] at hQ
    refine ⟨_, rfl, x, rfl, sz, _, _, rfl, rfl, _, rfl, iteB (fun h1 => ?_) (fun h1 => ?_)⟩
    · have h1 : (100 : Int) < (x.length : Int) := of_decide_eq_true h1
      rw [decide_eq_false (by omega), Bool.false_and] at hQ
      exact hQ _ s1
    have h1 : ¬ (100 : Int) < (x.length : Int) := of_decide_eq_false h1
    rw [decide_eq_true (by omega), Bool.true_and] at hQ
    refine ⟨_, rfl, p, _, rfl, .inl (SqL.of m1), _, _, rfl, rfl, _, rfl, iteB (fun h2 => ?_) (fun h2 => ?_)⟩
    · have h2 : (10 : Int) < ((P.map V.str).length : Int) := of_decide_eq_true h2
      rw [List.length_map] at h2
      rw [decide_eq_false (by rw [List.length_map]; omega), Bool.false_and] at hQ
      exact hQ _ s1
    have h2 : ¬ (10 : Int) < ((P.map V.str).length : Int) := of_decide_eq_false h2
    rw [List.length_map] at h2
    rw [decide_eq_true (by rw [List.length_map]; omega), Bool.true_and] at hQ
    refine ⟨_, rfl, p, rfl, ⟨_, SqL.of m1⟩, fun L hL => lc_list (K := K) (a := p) (xs := P.map V.str) (fun i H2 => ∃ W : List Str, H2 L = some (.lst (W.map V.str)) ∧ W.length ≤ i ∧ (∀ w ∈ W, ascii w) ∧ (W = [] ↔ ((P.take i).map tl).all labB = true) ∧ Same H1 H2) ⟨[], upd_same, Nat.le_refl _, by simp, by simp, Same.new hL⟩ (fun i H2 _ ⟨_, _, _, _, _, s⟩ => SqL.of (s _ _ m1)) ?_ ?_⟩
    · rintro i v H2 hi ⟨W, hl, hW, hWa, hWe, s2⟩
      obtain ⟨y, hy, rfl⟩ := strAt hi
      have hym := List.mem_of_getElem? hy
      have hin := allS_at (p := labB) hy
      refine ⟨rfl, _, rfl, y, rfl, ⟨ml y hym, ma y hym⟩, fun H3 s3 => ⟨_, rfl, ?_⟩⟩
      cases hc : labB (tl y) with
      | true =>
        rw [hc, Bool.and_true] at hin
        exact iteF ⟨W, s3 _ _ hl, by omega, hWa, by rw [hin]; exact hWe, s2.trans s3⟩
      | false =>
        rw [hc, Bool.and_false] at hin
        refine iteT ⟨_, rfl, _, s3 _ _ hl, Nat.lt_of_le_of_lt (by rw [List.length_map]; have := (List.getElem?_eq_some_iff.mp hy).1; omega : _ ≤ 2000) (by decide), W ++ [y], by rw [upd_same, List.map_append]; rfl, by rw [List.length_append, List.length_singleton]; omega, fun w hw => ?_, by rw [hin]; simp, Same.put (s2.trans s3) hL⟩
        rcases List.mem_append.mp hw with q | q
        · exact hWa w q
        · rw [List.mem_singleton.mp q]; exact ma y hym
    rintro H2 ⟨W, hl, hW, hWa, hWe, s2⟩
    rw [List.length_map, List.take_length] at hWe
    refine ⟨by show 0 ≤ sizeLine; decide, fun L2 hL2 => ?_⟩
    have s3 := (s1.trans s2).trans (Same.new (o := HO.lst []) hL2)
    have m3 := (Same.new (o := HO.lst []) hL2) _ _ (s2 _ _ m1)
    refine ⟨_, _, dp_strs (SqL.of ((Same.new (o := HO.lst []) hL2) _ _ hl)), dp_strs (ys := []) (SqL.of upd_same), lay_strs hWa, lay_strs (W := []) (by simp), _, rfl, ?_⟩
    rw [eqv_nil]
    generalize upd H2 L2 (.lst []) = H3 at s3 m3 ⊢
    cases hW0 : decide (W = []) with
    | false =>
      have e : (P.map tl).all labB = false := by
        rw [Bool.eq_false_iff]
        exact fun q => of_decide_eq_false hW0 (hWe.mpr q)
      rw [e, Bool.false_and] at hQ
      exact iteT (hQ _ s3)
    | true =>
      have e : (P.map tl).all labB = true := hWe.mp (of_decide_eq_true hW0)
      rw [e, Bool.true_and] at hQ
      refine iteF ?_
      have hne : P ≠ [] := fun q => by rw [q] at es; exact sp1_ne _ _ es.symm
      obtain ⟨P0, z, eP⟩ : ∃ P0 z, P = P0 ++ [z] := ⟨P.dropLast, P.getLast hne, (List.dropLast_concat_getLast hne).symm⟩
      have elast : lastL (P.map tl) = tl z := by rw [eP, List.map_append]; exact lastL_snoc _ _
      rw [elast] at hQ
      have hzm : z ∈ P := by rw [eP]; exact List.mem_append_right _ (List.mem_singleton.mpr rfl)
      have hzl : labB (tl z) = true := List.all_eq_true.mp e _ (List.mem_map.mpr ⟨z, hzm, rfl⟩)
      refine ⟨_, rfl, _, rfl, p, _, _, _, rfl, rfl, SqL.of m3, by rw [eP, List.map_append]; exact atI_last _ _, z, rfl, ?_⟩
      intro L4 hL4
      have zx := ml z hzm
      have za := ma z hzm
      refine lc_str (z := z) (fun i H4 => ∃ W : List Str, H4 L4 = some (.lst (W.map V.str)) ∧ W.length ≤ i ∧ (∀ w ∈ W, ascii w) ∧ (W = [] ↔ ((tl z).take i).all (fun c => decide (c ∈ digs)) = true) ∧ Same H3 H4) ⟨[], upd_same, Nat.le_refl _, by simp, by simp, Same.new hL4⟩ ?_ ?_
      · rintro i c H4 hi ⟨W, hl, hW, hWa, hWe, s4⟩
        refine ⟨rfl, _, rfl, _, _, rfl, rfl, _, rfl, ?_⟩
        rw [tl_digs2]
        have hin := all_take1 (p := fun c => decide (c ∈ digs)) hi
        cases hc : decide (c ∈ digs) with
        | true =>
          rw [hc, Bool.and_true] at hin
          exact iteF ⟨W, hl, by omega, hWa, by rw [hin]; exact hWe, s4⟩
        | false =>
          rw [hc, Bool.and_false] at hin
          refine iteT ⟨_, rfl, _, hl, Nat.lt_of_le_of_lt (by rw [List.length_map]; have := (List.getElem?_eq_some_iff.mp hi).1; rw [← len_tl] at this; omega : _ ≤ 2000) (by decide), W ++ [⟨#[c]⟩], by rw [upd_same, List.map_append]; rfl, by rw [List.length_append, List.length_singleton]; omega, fun w hw => ?_, by rw [hin]; simp, Same.put s4 hL4⟩
          rcases List.mem_append.mp hw with q | q
          · exact hWa w q
          · rw [List.mem_singleton.mp q]; exact ascii_mem za hi
      rintro H4 ⟨W4, hl4, _, hWa4, hWe4, s4⟩
      rw [List.take_length] at hWe4
      refine ⟨by show 0 ≤ sizeLine; decide, fun L5 hL5 => ?_⟩
      have s5 := (s3.trans s4).trans (Same.new (o := HO.lst []) hL5)
      have m5 := (Same.new (o := HO.lst []) hL5) _ _ (s4 _ _ m3)
      refine ⟨_, _, dp_strs (SqL.of ((Same.new (o := HO.lst []) hL5) _ _ hl4)), dp_strs (ys := []) (SqL.of upd_same), lay_strs hWa4, lay_strs (W := []) (by simp), _, rfl, ?_⟩
      rw [eqv_nil]
      generalize upd H4 L5 (.lst []) = H5 at s5 m5 ⊢
      have ed : digB (tl z) = decide (W4 = []) := by
        unfold digB onlyB
        rw [Bool.eq_iff_iff, Bool.and_eq_true, decide_eq_true_eq, decide_eq_true_eq, hWe4]
        exact ⟨fun g => g.1, fun g => ⟨g, lab_ne hzl⟩⟩
      rw [ed] at hQ
      cases hW4 : decide (W4 = []) with
      | false =>
        rw [hW4] at hQ
        exact iteT (hQ _ s5)
      | true =>
        rw [hW4, Bool.not_true, Bool.false_or] at hQ
        refine iteF ?_
        refine ⟨_, rfl, p, _, rfl, .inl (SqL.of m5), rfl, _, rfl, iteB (fun h4 => ?_) (fun h4 => ?_)⟩
        · have h4 : P.length = 4 := by
            rw [dec_int, beq_iff_eq, List.length_map] at h4
            omega
          rw [decide_eq_true (by rw [List.length_map]; exact h4 : (P.map tl).length = 4), Bool.and_true] at hQ
          refine ⟨_, rfl, p, rfl, ⟨_, SqL.of m5⟩, fun L6 hL6 => lc_list (K := K) (a := p) (xs := P.map V.str) (fun i H6 => ∃ W : List Str, H6 L6 = some (.lst (W.map V.str)) ∧ W.length ≤ i ∧ (∀ w ∈ W, ascii w) ∧ (W = [] ↔ ((P.take i).map tl).all numB = true) ∧ Same H5 H6) ⟨[], upd_same, Nat.le_refl _, by simp, by simp, Same.new hL6⟩ (fun i H6 _ ⟨_, _, _, _, _, s⟩ => SqL.of (s _ _ m5)) ?_ ?_⟩
          · rintro i v H6 hi ⟨W, hl, hW, hWa, hWe, s6⟩
            obtain ⟨y, hy, rfl⟩ := strAt hi
            have hym := List.mem_of_getElem? hy
            have hin := allS_at (p := numB) hy
            refine ⟨rfl, _, rfl, y, rfl, fun H7 s7 => ⟨_, rfl, ?_⟩⟩
            cases hc : numB (tl y) with
            | true =>
              rw [hc, Bool.and_true] at hin
              exact iteF ⟨W, s7 _ _ hl, by omega, hWa, by rw [hin]; exact hWe, s6.trans s7⟩
            | false =>
              rw [hc, Bool.and_false] at hin
              refine iteT ⟨_, rfl, _, s7 _ _ hl, Nat.lt_of_le_of_lt (by rw [List.length_map]; have := (List.getElem?_eq_some_iff.mp hy).1; omega : _ ≤ 2000) (by decide), W ++ [y], by rw [upd_same, List.map_append]; rfl, by rw [List.length_append, List.length_singleton]; omega, fun w hw => ?_, by rw [hin]; simp, Same.put (s6.trans s7) hL6⟩
              rcases List.mem_append.mp hw with q | q
              · exact hWa w q
              · rw [List.mem_singleton.mp q]; exact ma y hym
          rintro H6 ⟨W6, hl6, _, hWa6, hWe6, s6⟩
          rw [List.length_map, List.take_length] at hWe6
          refine ⟨by show 0 ≤ sizeLine; decide, fun L7 hL7 => ?_⟩
          have s7 := (s5.trans s6).trans (Same.new (o := HO.lst []) hL7)
          refine ⟨_, _, dp_strs (SqL.of ((Same.new (o := HO.lst []) hL7) _ _ hl6)), dp_strs (ys := []) (SqL.of upd_same), lay_strs hWa6, lay_strs (W := []) (by simp), ?_⟩
          rw [eqv_nil]
          have q := hQ _ s7
          rw [show (P.map tl).all numB = decide (W6 = []) by rw [Bool.eq_iff_iff, decide_eq_true_eq, hWe6]] at q
          exact q
        · have h4 : ¬ P.length = 4 := by
            rw [dec_int, beq_eq_false_iff_ne, List.length_map] at h4
            omega
          rw [decide_eq_false (by rw [List.length_map]; exact h4 : ¬ (P.map tl).length = 4), Bool.and_false] at hQ
          exact hQ _ s5
theorem ok__law_tells (T : Txt K mg) : Cal P w K mg base CX0 3 "_law_tells" ["text"] sp__law_tells := by
  refine T.d__law_tells.ok0 sc__law_tells (fun vs H Q E h => ?_) (fun f cdv A outer s H vs Q E hr h => ?_)
  · first | (obtain ⟨_, rfl, _⟩ := h; rfl) | (obtain ⟨_, _, rfl, _⟩ := h; rfl) | (obtain ⟨_, _, _, rfl, _⟩ := h; rfl) | (obtain ⟨_, _, _, _, rfl, _⟩ := h; rfl) | (obtain ⟨_, _, _, _, _, rfl, _⟩ := h; rfl)
  · refine ⟨_, (pss_one (ps_ret (pe_or (pe_c (ok__law_is_host T) hr (by decide) (by rfl) pass0 (pa_cons (pv 0) pa_nil)) (pe_one (pe_and (pe_cmpR (op_eq) (pe_slice sl_str (pv 0) (po_some (pe_un un_neg pe_int)) po_none) pe_str (nomark _)) (pe_one (pe_c (ok__law_is_host T) hr (by decide) (by rfl) pass0 (pa_cons (pe_slice sl_str (pv 0) po_none (po_some (pe_un un_neg pe_int))) pa_nil)))))))), ?_⟩
    obtain ⟨x, rfl, ⟨hx, ax⟩, hQ⟩ := h
    have sz : x.length ≤ sizeLine := Nat.le_trans (by omega : _ ≤ 1000) (by decide)
    rw [tellsL_or] at hQ
    refine ⟨_, rfl, x, rfl, ⟨hx, ax⟩, fun H1 s1 => ⟨_, rfl, ?_⟩⟩
    cases hb : hostB (tl x) with
    | true =>
      rw [hb, Bool.true_or] at hQ
      exact iteT (hQ _ s1)
    | false =>
      rw [hb, Bool.false_or] at hQ
      refine iteF ?_
      refine ⟨_, rfl, _, rfl, _, rfl, x, rfl, sz, rfl, _, rfl, ?_⟩
      rw [last_dot]
      cases hd : decide ((tl x).getLast? = some 46) with
      | false =>
        rw [hd, Bool.false_and] at hQ
        exact iteF (hQ _ s1)
      | true =>
        rw [hd, Bool.true_and, ← cutS_m1] at hQ
        exact iteT ⟨_, rfl, _, rfl, _, rfl, x, rfl, sz, _, rfl, ⟨Nat.le_trans cut_len hx, ax.cut⟩, fun H2 s2 => hQ _ (s1.trans s2)⟩
theorem ok__law_begins (T : Txt K mg) : Cal P w K mg base CX0 4 "_law_begins" ["text"] sp__law_begins := by
  refine T.d__law_begins.ok0 sc__law_begins (fun vs H Q E h => ?_) (fun f cdv A outer s H vs Q E hr h => ?_)
  · first | (obtain ⟨_, rfl, _⟩ := h; rfl) | (obtain ⟨_, _, rfl, _⟩ := h; rfl) | (obtain ⟨_, _, _, rfl, _⟩ := h; rfl) | (obtain ⟨_, _, _, _, rfl, _⟩ := h; rfl) | (obtain ⟨_, _, _, _, _, rfl, _⟩ := h; rfl)
  · refine ⟨_, (pss_one (ps_ret (pe_cmpR (op_neD hr.units) (pe_lc (own := [(("tail" : Str), 1)]) rfl sc__law_begins.nd (pi_list (pe_lst (pa_cons pe_str (pa_cons pe_str (pa_cons pe_str (pa_cons pe_str pa_nil)))))) (blkOk_by (N := ["text", "tail"]) (sc := defScope s__law_begins) (by decide +kernel)) (fun _ _ _ _ _ => (pg_name (i := 1) sc__law_begins.nd rfl (by first | exact Or.inl rfl | exact Or.inr rfl))) (fun _ _ _ _ _ => (pts_one (pt_val (pe_c (ok__law_tells T) hr (by decide) (by rfl) pass0 (pa_cons (pe_op op_add_str (pv 0) (pv 1)) pa_nil))))) (fun _ _ _ _ _ => (pv 1))) (pe_lst pa_nil) (nomark _)))), ?_⟩
    obtain ⟨x, rfl, hx, ax, hQ⟩ := h
    have hE : ∀ e ∈ tails4, e.length ≤ 2 ∧ (tl e).all (· < 128) = true := by decide +kernel
    have eB : goodL (tl x) = !((tails4.map fun e => !tellsL (tl x ++ tl e)).all id) := by
      rw [← law_begins]
      unfold tails4
      simp only [List.map_cons, List.map_nil, List.all_cons, List.all_nil, id, Bool.and_true]
      rw [show tl ("" : Str) = [] by decide +kernel, show tl ("a" : Str) = [97] by decide +kernel, show tl (".a" : Str) = [46, 97] by decide +kernel, tl_dot, List.append_nil]
      cases tellsL (tl x) <;> cases tellsL (tl x ++ [97]) <;> cases tellsL (tl x ++ [46, 97]) <;> cases tellsL (tl x ++ [46]) <;> rfl
    refine ⟨by show 4 ≤ sizeLine; decide, fun p hp => ?_⟩
    generalize hH1 : upd H p (.lst [V.str ("" : Str), V.str ("a" : Str), V.str (".a" : Str), V.str ("." : Str)]) = H1
    have s0 : Same H H1 := hH1 ▸ Same.new hp
    have m0 : H1 p = some (.lst (tails4.map V.str)) := by rw [← hH1]; exact upd_same
    refine ⟨p, rfl, ⟨_, SqL.of m0⟩, ?_⟩
    intro L hL
    refine lc_list (K := K) (a := p) (xs := tails4.map V.str) (fun i H2 => ∃ W : List Str, H2 L = some (.lst (W.map V.str)) ∧ W.length ≤ i ∧ (∀ w ∈ W, ascii w) ∧ (W = [] ↔ ((tails4.take i).map fun e => !tellsL (tl x ++ tl e)).all id = true) ∧ Same H1 H2) ⟨[], upd_same, Nat.le_refl _, by simp, by simp, Same.new hL⟩ (fun i H2 _ ⟨_, _, _, _, _, s⟩ => SqL.of (s _ _ m0)) ?_ ?_
    · rintro i v H2 hi ⟨W, hl, hW, hWa, hWe, s2⟩
      obtain ⟨y, hy, rfl⟩ := strAt hi
      obtain ⟨hy1, hy2⟩ := hE y (List.mem_of_getElem? hy)
      have ay := ascii_lit hy2
      have hin : ((tails4.take (i + 1)).map fun e => !tellsL (tl x ++ tl e)).all id = (((tails4.take i).map fun e => !tellsL (tl x ++ tl e)).all id && !tellsL (tl x ++ tl y)) := by
        rw [List.take_succ, hy]
        show ((tails4.take i ++ [y]).map fun e => !tellsL (tl x ++ tl e)).all id = _
        rw [List.map_append, List.all_append]
        simp
      refine ⟨rfl, _, rfl, _, rfl, _, _, rfl, rfl, Nat.le_trans (by omega : _ ≤ 2000) (by decide), x ++ y, rfl, ⟨by rw [Str.length_append]; omega, ax.app ay⟩, fun H3 s3 => ⟨_, rfl, ?_⟩⟩
      rw [tl_append]
      cases hc : tellsL (tl x ++ tl y) with
      | false =>
        rw [hc, Bool.not_false, Bool.and_true] at hin
        exact iteF ⟨W, s3 _ _ hl, by omega, hWa, by rw [hin]; exact hWe, s2.trans s3⟩
      | true =>
        rw [hc, Bool.not_true, Bool.and_false] at hin
        refine iteT ⟨_, rfl, _, s3 _ _ hl, Nat.lt_of_le_of_lt (by rw [List.length_map]; have h4 := (List.getElem?_eq_some_iff.mp hy).1; have : tails4.length = 4 := rfl; omega : _ ≤ 2000) (by decide), W ++ [y], by rw [upd_same, List.map_append]; rfl, by rw [List.length_append, List.length_singleton]; omega, fun w hw => ?_, by rw [hin]; simp, Same.put (s2.trans s3) hL⟩
        rcases List.mem_append.mp hw with q | q
        · exact hWa w q
        · rw [List.mem_singleton.mp q]; exact ay
    rintro H2 ⟨W, hl, hW, hWa, hWe, s2⟩
    rw [List.length_map, List.take_length] at hWe
    refine ⟨by show 0 ≤ sizeLine; decide, fun L2 hL2 => ?_⟩
    have s3 := (s0.trans s2).trans (Same.new (o := HO.lst []) hL2)
    refine ⟨_, _, dp_strs (SqL.of ((Same.new (o := HO.lst []) hL2) _ _ hl)), dp_strs (ys := []) (SqL.of upd_same), lay_strs hWa, lay_strs (W := []) (by simp), ?_⟩
    rw [eqv_nil]
    have q := hQ _ s3
    rw [eB, show (tails4.map fun e => !tellsL (tl x ++ tl e)).all id = decide (W = []) by rw [Bool.eq_iff_iff, decide_eq_true_eq, hWe]] at q
    exact q
theorem ok__law_due (T : Txt K mg) : Cal P w K mg base CX0 5 "_law_due" ["text"] sp__law_due := by
  refine T.d__law_due.ok0 sc__law_due (fun vs H Q E h => ?_) (fun f cdv A outer s H vs Q E hr h => ?_)
  · first | (obtain ⟨_, rfl, _⟩ := h; rfl) | (obtain ⟨_, _, rfl, _⟩ := h; rfl) | (obtain ⟨_, _, _, rfl, _⟩ := h; rfl) | (obtain ⟨_, _, _, _, rfl, _⟩ := h; rfl) | (obtain ⟨_, _, _, _, _, rfl, _⟩ := h; rfl)
  · refine ⟨_, (pss_cons (ps_set (i := 1) sc__law_due.nd rfl (by first | exact Or.inl rfl | exact Or.inr rfl) (pe_lower (pv 0)))
      (pss_cons (ps_if (pt_val (pe_c (ok__law_tells T) hr (by decide) (by rfl) pass0 (pa_cons (pv 1) pa_nil)))
      (pss_one (ps_ret (pe_lst (pa_cons (pe_ifExp (pt_cmpR (op_eq) (pe_ix ix_str (pv 1) (pe_un un_neg pe_int) (fun _ _ => rfl)) pe_str (nomark _)) (pe_slice sl_str (pv 1) po_none (po_some (pe_un un_neg pe_int))) (pv 1)) pa_nil))))
      pss_nil)
      (pss_cons (ps_for PassesOwn.never rfl (pi_range1 (by rfl) T.b_range (pa_cons (pe_callB call_len_str (by rfl) T.b_len (by decide +kernel) (pa_cons (pv 1) pa_nil)) pa_nil)) (pg_name (i := 2) sc__law_due.nd rfl (by first | exact Or.inl rfl | exact Or.inr rfl))
      (pss_one (ps_if (pt_not (pt_val (pe_c (ok__law_begins T) hr (by decide) (by rfl) pass0 (pa_cons (pe_slice sl_str (pv 1) po_none (po_some (pe_op op_add (pv 2) pe_int))) pa_nil))))
      (pss_one (ps_ret (pe_op op_add (pv 2) pe_int)))
      pss_nil)))
      (pss_one (ps_ret (pe_op op_add (pe_callB call_len_str (by rfl) T.b_len (by decide +kernel) (pa_cons (pv 1) pa_nil)) pe_int)))))), ?_⟩
    obtain ⟨x, rfl, hx, ax, hQ⟩ := h
    have al := ax.low
    have el := lower_tl ax
    refine ⟨_, rfl, ⟨_, rfl⟩, _, rfl, rfl, Nat.le_trans hx (by decide), ?_⟩
    have lz : (Txt.lower x).length ≤ 900 := by rw [al.2]; exact hx
    have az := al.1
    generalize Txt.lower x = z at el lz az ⊢
    have sz : z.length ≤ sizeLine := Nat.le_trans (by omega : _ ≤ 1000) (by decide)
    have el2 : tl z = lowL x := el
    rw [← el2] at hQ
    refine ⟨_, rfl, z, rfl, ⟨by omega, az⟩, fun H1 s1 => ⟨_, rfl, ?_⟩⟩
    cases ht : tellsL (tl z) with
    | true =>
      have hne : 1 ≤ z.length := by
        rcases Nat.eq_zero_or_pos z.length with q | q
        · rw [len_tl] at q
          rw [List.eq_nil_of_length_eq_zero q] at ht
          exact absurd ht (by decide +kernel)
        · exact q
      obtain ⟨a, b, hza, hzz, e1, e2⟩ := ends_at hne
      have done : ∀ y : Str, tl y = stripDot (tl z) → ∀ p, H1 p = none → Q (.ref p) (upd H1 p (.lst [V.str y])) := fun y ey p hp => hQ _ _ (s1.trans (Same.new hp)) (.inl ⟨ht, p, y, rfl, upd_same, ey⟩)
      refine iteT ⟨_, rfl, _, rfl, z, _, b, rfl, rfl, sz, hzz, rfl, _, rfl, iteB (fun h1 => ?_) (fun h1 => ?_)⟩
      · have h1 : b = 46 := by
          have := V.str.inj (of_decide_eq_true h1)
          rw [dot_eq] at this
          have := congrArg tl this
          simpa [tl] using this
        refine ⟨_, rfl, _, rfl, _, rfl, z, rfl, sz, by show 1 ≤ sizeLine; decide, fun p hp => done _ ?_ p hp⟩
        unfold stripDot
        rw [if_pos (by rw [e2, h1]), cutS_m1]
      · have h1 : b ≠ 46 := fun q => of_decide_eq_false h1 (by rw [q, dot_eq])
        refine ⟨_, rfl, by show 1 ≤ sizeLine; decide, fun p hp => done _ ?_ p hp⟩
        rw [strip_other (by rw [e2]; simpa using h1)]
    | false =>
      refine iteF ?_
      refine ⟨_, rfl, z, rfl, sz, _, rfl, by omega, by omega, ?_⟩
      refine for_range (n := z.length) (fun i σ H2 => ∃ v1, σ = [some (.str x), some (.str z), v1] ∧ Same H1 H2 ∧ ∀ j, j < i → goodL ((tl z).take (j + 1)) = true) ⟨none, rfl, Same.refl _, fun j hj => absurd hj (Nat.not_lt_zero j)⟩ ?_ ?_
      · rintro i σ H2 hi ⟨v1, rfl, s2, hg⟩
        refine ⟨_, rfl, _, rfl, _, _, rfl, rfl, _, rfl, z, rfl, sz, _, rfl, Nat.le_trans cut_len lz, az.cut, fun H3 s3 => ⟨_, rfl, ?_⟩⟩
        rw [cutS_to z (by omega), show ((0 : Int) + (i : Int) + 1).toNat = i + 1 by omega]
        cases hb : goodL ((tl z).take (i + 1)) with
        | true =>
          refine iteF ⟨_, rfl, s2.trans s3, fun j hj => ?_⟩
          rcases Nat.lt_succ_iff_lt_or_eq.mp hj with q | q
          · exact hg j q
          · rw [q]; exact hb
        | false =>
          refine iteT ⟨_, rfl, _, _, rfl, rfl, ?_⟩
          refine hQ _ _ ((s1.trans s2).trans s3) (.inr ⟨ht, i + 1, ?_, .inr ⟨by omega, by rw [← len_tl]; omega, hb, fun j hj => hg j (by omega)⟩⟩)
          show V.int ((0 : Int) + (i : Int) + 1) = V.int ((i + 1 : Nat) : Int)
          congr 1
          omega
      · rintro σ H2 ⟨v1, rfl, s2, hg⟩
        refine ⟨_, rfl, z, rfl, sz, _, _, rfl, rfl, hQ _ _ (s1.trans s2) (.inr ⟨ht, z.length + 1, ?_, .inl ⟨by rw [← len_tl], fun j hj => hg j (by rw [len_tl]; exact hj)⟩⟩)⟩
        rfl
theorem ok_has_only (T : Txt K mg) : Cal P w K mg base CX0 1 "has_only" ["text", "signs"] sp_has_only := by
  refine T.d_has_only.ok0 sc_has_only (fun vs H Q E h => ?_) (fun f cdv A outer s H vs Q E hr h => ?_)
  · first | (obtain ⟨_, rfl, _⟩ := h; rfl) | (obtain ⟨_, _, rfl, _⟩ := h; rfl) | (obtain ⟨_, _, _, rfl, _⟩ := h; rfl) | (obtain ⟨_, _, _, _, rfl, _⟩ := h; rfl) | (obtain ⟨_, _, _, _, _, rfl, _⟩ := h; rfl)
  · refine ⟨_, (pss_one (ps_ret (pe_and (pe_cmpR (op_ne) (pv 0) pe_str (nomark _)) (pe_one (pe_cmpR (op_eq) (pe_m1 PySem.F.slot_str_strip PySem.F.type_str_strip mt_stripChars (pv 0) (pv 1)) pe_str (nomark _)))))), ?_⟩
    obtain ⟨x, g, rfl, hx, hQ⟩ := h
    rw [← strip_only] at hQ
    refine ⟨_, rfl, rfl, _, rfl, ?_⟩
    cases hz : (!decide (V.str x = V.str ("" : Str))) with
    | false => rw [hz, Bool.false_and] at hQ; exact iteF hQ
    | true =>
      rw [hz, Bool.true_and] at hQ
      exact iteT ⟨_, rfl, ⟨_, rfl⟩, _, rfl, _, _, rfl, rfl, Nat.le_trans hx (by decide), rfl, hQ⟩
theorem ok_is_digits (T : Txt K mg) : Cal P w K mg base CX0 2 "is_digits" ["text"] sp_is_digits := by
  refine T.d_is_digits.ok0 sc_is_digits (fun vs H Q E h => ?_) (fun f cdv A outer s H vs Q E hr h => ?_)
  · first | (obtain ⟨_, rfl, _⟩ := h; rfl) | (obtain ⟨_, _, rfl, _⟩ := h; rfl) | (obtain ⟨_, _, _, rfl, _⟩ := h; rfl) | (obtain ⟨_, _, _, _, rfl, _⟩ := h; rfl) | (obtain ⟨_, _, _, _, _, rfl, _⟩ := h; rfl)
  · refine ⟨_, (pss_one (ps_ret (pe_c (ok_has_only T) hr (by decide) (by rfl) pass0 (pa_cons (pv 0) (pa_cons (pe_gc (by rfl) T.c_DIGITS) pa_nil))))), ?_⟩
    obtain ⟨x, rfl, hx, hQ⟩ := h
    exact ⟨_, rfl, x, _, rfl, hx, by rw [tl_digs]; exact hQ⟩
theorem ok__is_label (T : Txt K mg) : Cal P w K mg base CX0 2 "_is_label" ["text"] sp__is_label := by
  refine T.d__is_label.ok0 sc__is_label (fun vs H Q E h => ?_) (fun f cdv A outer s H vs Q E hr h => ?_)
  · first | (obtain ⟨_, rfl, _⟩ := h; rfl) | (obtain ⟨_, _, rfl, _⟩ := h; rfl) | (obtain ⟨_, _, _, rfl, _⟩ := h; rfl) | (obtain ⟨_, _, _, _, rfl, _⟩ := h; rfl) | (obtain ⟨_, _, _, _, _, rfl, _⟩ := h; rfl)
  · refine ⟨_, (pss_cons (ps_if (PW.pt (pw_or (pt_cmpR (op_gt) (pe_callB call_len_str (by rfl) T.b_len (by decide +kernel) (pa_cons (pv 0) pa_nil)) (pe_gc (by rfl) T.c_MOST_OF_LABEL) (nomark _)) (pw_or1 (pt_not (pt_val (pe_c (ok_has_only T) hr (by decide) (by rfl) pass0 (pa_cons (pv 0) (pa_cons (pe_gc (by rfl) T.c_LABEL_SIGNS) pa_nil))))))))
      (pss_one (ps_ret pe_bl))
      pss_nil)
      (pss_one (ps_ret (pe_and (pe_cmpR (op_ne) (pe_ix ix_str (pv 0) pe_int (fun _ _ => rfl)) pe_str (nomark _)) (pe_one (pe_cmpR (op_ne) (pe_ix ix_str (pv 0) (pe_un un_neg pe_int) (fun _ _ => rfl)) pe_str (nomark _))))))), ?_⟩
    obtain ⟨x, rfl, hx, hQ⟩ := h
    refine ⟨_, rfl, x, rfl, Nat.le_trans hx (by decide), _, _, rfl, rfl, _, rfl, iteB (fun h1 => ?_) (fun h1 => ?_)⟩
    · have h1 : (20 : Int) < (x.length : Int) := of_decide_eq_true h1
      have e : labB (tl x) = false := by
        unfold labB
        rw [decide_eq_false (by rw [len_tl] at h1; omega), Bool.false_and]
      rw [e] at hQ
      exact hQ
    have h1 : ¬ (20 : Int) < (x.length : Int) := of_decide_eq_false h1
    have hl : (tl x).length ≤ 20 := by rw [len_tl] at h1; omega
    unfold labB at hQ
    rw [decide_eq_true hl, Bool.true_and] at hQ
    refine ⟨_, rfl, x, _, rfl, hx, ?_⟩
    rw [tl_lsig]
    refine ⟨_, rfl, ?_⟩
    cases h2 : onlyB lsig (tl x) with
    | false =>
      rw [h2, Bool.false_and] at hQ
      exact iteT hQ
    | true =>
      rw [h2, Bool.true_and] at hQ
      refine iteF ?_
      have hne : tl x ≠ [] := by
        unfold onlyB at h2
        rw [Bool.and_eq_true, decide_eq_true_eq] at h2
        exact h2.2
      obtain ⟨r, d, er⟩ := snoc_of_ne hne
      obtain ⟨a, r2, ea⟩ : ∃ a r2, tl x = a :: r2 := List.exists_cons_of_ne_nil hne
      have h0 : atI x.cps.toList 0 = some a := by show atI (tl x) ((0 : Nat) : Int) = _; rw [ea]; exact atI_nat rfl
      have hz : atI x.cps.toList (-1) = some d := by show atI (tl x) (-1) = _; rw [er]; exact atI_last r d
      have e1 : (tl x).head? = some a := by rw [ea]; rfl
      have e2 : (tl x).getLast? = some d := by rw [er, List.getLast?_concat]
      rw [e1, e2] at hQ
      refine ⟨_, rfl, x, _, a, rfl, rfl, Nat.le_trans hx (by decide), h0, rfl, _, rfl, ?_⟩
      rw [one_dash]
      have e3 : decide (some a ≠ some 45) = !decide (a = 45) := by rw [Bool.eq_iff_iff]; simp
      have e4 : decide (some d ≠ some 45) = !decide (d = 45) := by rw [Bool.eq_iff_iff]; simp
      rw [e3, e4] at hQ
      cases h3 : decide (a = 45) with
      | true =>
        rw [h3] at hQ
        exact iteF hQ
      | false =>
        rw [h3] at hQ
        refine iteT ⟨_, rfl, _, rfl, x, _, d, rfl, rfl, Nat.le_trans hx (by decide), hz, rfl, ?_⟩
        rw [one_dash]
        exact hQ
theorem ok_are_labels (T : Txt K mg) : Cal P w K mg base CX0 3 "are_labels" ["texts"] (sp_are_labels K) := by
  refine T.d_are_labels.ok0 sc_are_labels (fun vs H Q E h => ?_) (fun f cdv A outer s H vs Q E hr h => ?_)
  · first | (obtain ⟨_, rfl, _⟩ := h; rfl) | (obtain ⟨_, _, rfl, _⟩ := h; rfl) | (obtain ⟨_, _, _, rfl, _⟩ := h; rfl) | (obtain ⟨_, _, _, _, rfl, _⟩ := h; rfl) | (obtain ⟨_, _, _, _, _, rfl, _⟩ := h; rfl)
  · refine ⟨_, (pss_cons (ps_for PassesOwn.never rfl (pi_list (pv 0)) (pg_name (i := 1) sc_are_labels.nd rfl (by first | exact Or.inl rfl | exact Or.inr rfl))
      (pss_one (ps_if (pt_not (pt_val (pe_c (ok__is_label T) hr (by decide) (by rfl) pass0 (pa_cons (pv 1) pa_nil))))
      (pss_one (ps_ret pe_bl))
      pss_nil)))
      (pss_one (ps_ret pe_bl))), ?_⟩
    obtain ⟨p, xs, rfl, hp, hx, hQ⟩ := h
    refine ⟨_, rfl, p, rfl, ⟨_, hp⟩, for_list (K := K) (a := p) (xs := xs.map V.str) (fun i σ H1 => ∃ sv, σ = [some (.ref p), sv] ∧ H1 = H ∧ ((xs.take i).map tl).all labB = true) ⟨none, rfl, rfl, by simp⟩ (fun i σ H1 _ ⟨_, _, e, _⟩ => by rw [e]; exact hp) ?_ ?_⟩
    · rintro i v σ H1 hi ⟨sv, rfl, rfl, ha⟩
      obtain ⟨x, hxi, rfl⟩ := strAt hi
      refine ⟨_, rfl, x, rfl, hx x (List.mem_of_getElem? hxi), _, rfl, ?_⟩
      cases hl : labB (tl x) with
      | true => exact iteF ⟨_, rfl, rfl, by rw [allS_at hxi, ha, hl]; rfl⟩
      | false =>
        have e : (xs.map tl).all labB = false := by
          rw [List.all_eq_false]
          exact ⟨tl x, List.mem_map.mpr ⟨x, List.mem_of_getElem? hxi, rfl⟩, by rw [hl]; exact Bool.false_ne_true⟩
        rw [e] at hQ
        exact iteT hQ
    · rintro σ H1 ⟨sv, rfl, rfl, ha⟩
      rw [List.length_map, List.take_length] at ha
      rw [ha] at hQ
      exact hQ
theorem ok__is_number (T : Txt K mg) : Cal P w K mg base CX0 3 "_is_number" ["label"] sp__is_number := by
  refine T.d__is_number.ok0 sc__is_number (fun vs H Q E h => ?_) (fun f cdv A outer s H vs Q E hr h => ?_)
  · first | (obtain ⟨_, rfl, _⟩ := h; rfl) | (obtain ⟨_, _, rfl, _⟩ := h; rfl) | (obtain ⟨_, _, _, rfl, _⟩ := h; rfl) | (obtain ⟨_, _, _, _, rfl, _⟩ := h; rfl) | (obtain ⟨_, _, _, _, _, rfl, _⟩ := h; rfl)
  · refine ⟨_, (pss_cons (ps_if (PW.pt (pw_or (pt_not (pt_val (pe_c (ok_is_digits T) hr (by decide) (by rfl) pass0 (pa_cons (pv 0) pa_nil)))) (pw_or1 (pt_cmpR (op_gt) (pe_callTy call_int_str (by rfl) T.b_int (by decide +kernel) (pa_cons (pv 0) pa_nil)) (pe_gc (by rfl) T.c_MOST_OF_NUMBER) (nomark _)))))
      (pss_one (ps_ret pe_bl))
      pss_nil)
      (pss_one (ps_ret (pe_or (pe_cmpR (op_eq) (pv 0) pe_str (nomark _)) (pe_one (pe_cmpR (op_ne) (pe_ix ix_str (pv 0) pe_int (fun _ _ => rfl)) pe_str (nomark _))))))), ?_⟩
    obtain ⟨x, rfl, hx, hQ⟩ := h
    unfold numB at hQ
    refine ⟨_, rfl, x, rfl, Nat.le_trans hx (by decide), _, rfl, ?_⟩
    cases h1 : digB (tl x) with
    | false =>
      rw [h1, Bool.false_and] at hQ
      exact iteT hQ
    | true =>
      rw [h1, Bool.true_and] at hQ
      refine iteF ⟨_, rfl, x, _, rfl, int_dig h1 hx, hx, _, _, rfl, rfl, _, rfl, ?_⟩
      refine iteB (fun h2 => ?_) (fun h2 => ?_)
      · have h2 : (255 : Int) < ((NumText.digitsVal (tl x) : Nat) : Int) := of_decide_eq_true h2
        rw [decide_eq_false (by omega), Bool.false_and] at hQ
        exact hQ
      · have h2 : ¬ (255 : Int) < ((NumText.digitsVal (tl x) : Nat) : Int) := of_decide_eq_false h2
        rw [decide_eq_true (by omega), Bool.true_and] at hQ
        refine ⟨_, rfl, rfl, _, rfl, ?_⟩
        rw [str_zero]
        cases h3 : decide (tl x = [48]) with
        | true =>
          rw [h3, Bool.true_or] at hQ
          exact iteT hQ
        | false =>
          rw [h3, Bool.false_or] at hQ
          obtain ⟨a, r2, ea⟩ : ∃ a r2, tl x = a :: r2 := List.exists_cons_of_ne_nil (digB_iff.mp h1).2
          have h0 : atI x.cps.toList 0 = some a := by show atI (tl x) ((0 : Nat) : Int) = _; rw [ea]; exact atI_nat rfl
          refine iteF ⟨_, rfl, x, _, a, rfl, rfl, Nat.le_trans hx (by decide), h0, rfl, ?_⟩
          rw [one_zero]
          have e3 : decide ((tl x).head? ≠ some 48) = !decide (a = 48) := by rw [ea, Bool.eq_iff_iff]; simp
          rw [e3] at hQ
          exact hQ
theorem ok__are_four_numbers (T : Txt K mg) : Cal P w K mg base CX0 4 "_are_four_numbers" ["labels"] (sp__are_four_numbers K) := by
  refine T.d__are_four_numbers.ok0 sc__are_four_numbers (fun vs H Q E h => ?_) (fun f cdv A outer s H vs Q E hr h => ?_)
  · first | (obtain ⟨_, rfl, _⟩ := h; rfl) | (obtain ⟨_, _, rfl, _⟩ := h; rfl) | (obtain ⟨_, _, _, rfl, _⟩ := h; rfl) | (obtain ⟨_, _, _, _, rfl, _⟩ := h; rfl) | (obtain ⟨_, _, _, _, _, rfl, _⟩ := h; rfl)
  · refine ⟨_, (pss_cons (ps_for PassesOwn.never rfl (pi_list (pv 0)) (pg_name (i := 1) sc__are_four_numbers.nd rfl (by first | exact Or.inl rfl | exact Or.inr rfl))
      (pss_one (ps_if (pt_not (pt_val (pe_c (ok__is_number T) hr (by decide) (by rfl) pass0 (pa_cons (pv 1) pa_nil))))
      (pss_one (ps_ret pe_bl))
      pss_nil)))
      (pss_one (ps_ret (pe_cmpR (op_eq) (pe_callB call_len_seq (by rfl) T.b_len (by decide +kernel) (pa_cons (pv 0) pa_nil)) pe_int (nomark _))))), ?_⟩
    obtain ⟨p, xs, rfl, hp, hx, hQ⟩ := h
    refine ⟨_, rfl, p, rfl, ⟨_, hp⟩, for_list (K := K) (a := p) (xs := xs.map V.str) (fun i σ H1 => ∃ sv, σ = [some (.ref p), sv] ∧ H1 = H ∧ ((xs.take i).map tl).all numB = true) ⟨none, rfl, rfl, by simp⟩ (fun i σ H1 _ ⟨_, _, e, _⟩ => by rw [e]; exact hp) ?_ ?_⟩
    · rintro i v σ H1 hi ⟨sv, rfl, rfl, ha⟩
      obtain ⟨x, hxi, rfl⟩ := strAt hi
      refine ⟨_, rfl, x, rfl, hx x (List.mem_of_getElem? hxi), _, rfl, ?_⟩
      cases hl : numB (tl x) with
      | true => exact iteF ⟨_, rfl, rfl, by rw [allS_at hxi, ha, hl]; rfl⟩
      | false =>
        have e : (xs.map tl).all numB = false := by
          rw [List.all_eq_false]
          exact ⟨tl x, List.mem_map.mpr ⟨x, List.mem_of_getElem? hxi, rfl⟩, by rw [hl]; exact Bool.false_ne_true⟩
        rw [e, Bool.false_and] at hQ
        exact iteT hQ
    · rintro σ H1 ⟨sv, rfl, rfl, ha⟩
      rw [List.length_map, List.take_length] at ha
      rw [ha, Bool.true_and] at hQ
      refine ⟨_, rfl, p, _, rfl, .inl hp, rfl, ?_⟩
      have e : decide (V.int ((xs.map V.str).length : Nat) = V.int 4) = decide (xs.length = 4) := by
        rw [dec_int, Bool.eq_iff_iff, beq_iff_eq, decide_eq_true_eq, List.length_map]; omega
      rw [e]
      exact hQ
theorem ok_is_host (T : Txt K mg) : Cal P w K mg base CX0 5 "is_host" ["value"] (sp_is_host K) := by
  refine T.d_is_host.ok0 sc_is_host (fun vs H Q E h => ?_) (fun f cdv A outer s H vs Q E hr h => ?_)
  · first | (obtain ⟨_, rfl, _⟩ := h; rfl) | (obtain ⟨_, _, rfl, _⟩ := h; rfl) | (obtain ⟨_, _, _, rfl, _⟩ := h; rfl) | (obtain ⟨_, _, _, _, rfl, _⟩ := h; rfl) | (obtain ⟨_, _, _, _, _, rfl, _⟩ := h; rfl)
  · refine ⟨_, (pss_cons (ps_if (PW.pt (pw_or (pt_not (pt_val (pe_callB call_isi (by rfl) T.b_isinstance (by decide +kernel) (pa_cons (pv 0) (pa_cons (pe_bltn (v := .ty "str") (by rfl) T.b_str (by decide +kernel) rfl) pa_nil))))) (pw_or1 (pt_cmpR (op_gt) (pe_callB call_len_str (by rfl) T.b_len (by decide +kernel) (pa_cons (pv 0) pa_nil)) (pe_gc (by rfl) T.c_MOST_OF_HOST) (nomark _)))))
      (pss_one (ps_ret pe_bl))
      pss_nil)
      (pss_cons (ps_set (i := 1) sc_is_host.nd rfl (by first | exact Or.inl rfl | exact Or.inr rfl) (pe_split (pv 0) pe_str))
      (pss_cons (ps_if (PW.pt (pw_or (pt_cmpR (op_gt) (pe_callB call_len_seq (by rfl) T.b_len (by decide +kernel) (pa_cons (pv 1) pa_nil)) (pe_gc (by rfl) T.c_MOST_LABELS) (nomark _)) (pw_or1 (pt_not (pt_val (pe_c (ok_are_labels T) hr (by decide) (by rfl) pass0 (pa_cons (pv 1) pa_nil)))))))
      (pss_one (ps_ret pe_bl))
      pss_nil)
      (pss_one (ps_ret (pe_or (pe_not (pe_c (ok_is_digits T) hr (by decide) (by rfl) pass0 (pa_cons (pe_ix ix_list (pv 1) (pe_un un_neg pe_int) (fun _ _ => rfl)) pa_nil))) (pe_one (pe_c (ok__are_four_numbers T) hr (by decide) (by rfl) pass0 (pa_cons (pv 1) pa_nil))))))))), ?_⟩
    obtain ⟨v, b, rfl, hv, hQ⟩ := h
    rcases hv with ⟨x, rfl, hx, rfl⟩ | ⟨t, ht, hk, rfl⟩
    · refine ⟨_, rfl, _, _, _, _, true, rfl, .ty _, .base (.str x), kit_str K, _, rfl, iteF ?_⟩
      refine ⟨_, rfl, x, rfl, Nat.le_trans hx (by decide), _, _, rfl, rfl, _, rfl, iteB (fun h1 => ?_) (fun h1 => ?_)⟩
      · have h1 : (100 : Int) < (x.length : Int) := of_decide_eq_true h1
        have e : hostB (tl x) = false := by
          unfold hostB
          rw [decide_eq_false (by rw [len_tl] at h1; omega), Bool.false_and]
        rw [e] at hQ
        exact hQ _ (Same.refl _)
      have h1 : ¬ (100 : Int) < (x.length : Int) := of_decide_eq_false h1
      have hl : (tl x).length ≤ 100 := by rw [len_tl] at h1; omega
      have hl2 : x.length ≤ 100 := by rw [len_tl]; exact hl
      unfold hostB at hQ
      rw [decide_eq_true hl, Bool.true_and] at hQ
      refine ⟨_, rfl, ⟨_, rfl⟩, _, _, rfl, rfl, by decide +kernel, Nat.le_trans (by omega : _ ≤ 10000) (by decide), fun p hp => ?_⟩
      have e1 := split_sp1 x (c := 46) (by decide)
      have ml : ∀ p ∈ Txt.split x ⟨#[46]⟩, p.length ≤ x.length := fun p hp => split_mem_len (c := 46) (by decide) hp
      rw [← dot_eq] at e1 ml
      rw [← e1] at hQ
      have hne : Txt.split x ("." : Str) ≠ [] := fun e => by rw [e] at e1; exact sp1_ne _ _ e1.symm
      generalize Txt.split x ("." : Str) = P at *
      obtain ⟨P0, z, eP⟩ : ∃ P0 z, P = P0 ++ [z] := ⟨P.dropLast, P.getLast hne, (List.dropLast_concat_getLast hne).symm⟩
      have s1 := Same.new (o := HO.lst (P.map V.str)) hp
      have m1 : (upd H p (.lst (P.map V.str))) p = some (.lst (P.map V.str)) := upd_same
      generalize upd H p (.lst (P.map V.str)) = H1 at s1 m1 ⊢
      unfold hostL at hQ
      refine ⟨_, rfl, p, _, rfl, .inl (SqL.of m1), _, _, rfl, rfl, _, rfl, iteB (fun h2 => ?_) (fun h2 => ?_)⟩
      · have h2 : (10 : Int) < ((P.map V.str).length : Int) := of_decide_eq_true h2
        rw [List.length_map] at h2
        rw [decide_eq_false (by rw [List.length_map]; omega), Bool.false_and] at hQ
        exact hQ _ s1
      have h2 : ¬ (10 : Int) < ((P.map V.str).length : Int) := of_decide_eq_false h2
      rw [List.length_map] at h2
      rw [decide_eq_true (by rw [List.length_map]; omega), Bool.true_and] at hQ
      refine ⟨_, rfl, p, P, rfl, SqL.of m1, fun y hy => Nat.le_trans (ml y hy) (by omega), _, rfl, ?_⟩
      cases h3 : (P.map tl).all labB with
      | false =>
        rw [h3, Bool.false_and] at hQ
        exact iteT (hQ _ s1)
      | true =>
        rw [h3, Bool.true_and, lastL_map eP] at hQ
        refine iteF ?_
        have ha : atI (P.map V.str) (-1) = some (.str z) := by rw [eP, List.map_append]; exact atI_last _ _
        refine ⟨_, rfl, _, rfl, p, _, _, _, rfl, rfl, SqL.of m1, ha, z, rfl, Nat.le_trans (ml z (by rw [eP]; simp)) (by omega), _, rfl, _, rfl, ?_⟩
        cases h4 : digB (tl z) with
        | false =>
          rw [h4] at hQ
          exact iteT (hQ _ s1)
        | true =>
          rw [h4] at hQ
          refine iteF ⟨_, rfl, p, P, rfl, SqL.of m1, fun y hy => Nat.le_trans (ml y hy) (by omega), ?_⟩
          rw [List.length_map] at hQ
          exact hQ _ s1
    · refine ⟨_, rfl, _, _, _, _, false, rfl, .ty _, ht, hk, _, rfl, iteT ?_⟩
      exact hQ _ (Same.refl _)
theorem ok__tells_host (T : Txt K mg) : Cal P w K mg base CX0 6 "_tells_host" ["text"] sp__tells_host := by
  refine T.d__tells_host.ok0 sc__tells_host (fun vs H Q E h => ?_) (fun f cdv A outer s H vs Q E hr h => ?_)
  · first | (obtain ⟨_, rfl, _⟩ := h; rfl) | (obtain ⟨_, _, rfl, _⟩ := h; rfl) | (obtain ⟨_, _, _, rfl, _⟩ := h; rfl) | (obtain ⟨_, _, _, _, rfl, _⟩ := h; rfl) | (obtain ⟨_, _, _, _, _, rfl, _⟩ := h; rfl)
  · refine ⟨_, (pss_one (ps_ret (pe_c (ok_is_host T) hr (by decide) (by rfl) pass0 (pa_cons (pe_lower (pe_m1 PySem.F.slot_str_removesuffix PySem.F.type_str_removesuffix mt_removesuffix (pv 0) pe_str)) pa_nil)))), ?_⟩
    obtain ⟨x, rfl, ⟨hx, ax⟩, hQ⟩ := h
    have h1 := lowT_tl ax
    have h2 := rs_len x
    refine ⟨_, rfl, ⟨_, rfl⟩, _, _, rfl, rfl, Nat.le_trans hx (by decide), ⟨_, rfl⟩, _, rfl, rfl, Nat.le_trans (Nat.le_trans h2 hx) (by decide), .str _, _, rfl, .inl ⟨_, rfl, ?_, rfl⟩, fun H1 s1 => ?_⟩
    · rw [len_tl, h1]
      have := strip_len (l := lowL x)
      unfold lowL at this
      rw [List.length_map, ← len_tl] at this
      exact Nat.le_trans this (Nat.le_trans hx (by decide))
    · have := hQ _ s1
      unfold tellsL at this
      rw [← h1] at this
      exact this
theorem ok__begins_host (T : Txt K mg) : Cal P w K mg base CX0 6 "_begins_host" ["text"] sp__begins_host := by
  refine T.d__begins_host.ok0 sc__begins_host (fun vs H Q E h => ?_) (fun f cdv A outer s H vs Q E hr h => ?_)
  · first | (obtain ⟨_, rfl, _⟩ := h; rfl) | (obtain ⟨_, _, rfl, _⟩ := h; rfl) | (obtain ⟨_, _, _, rfl, _⟩ := h; rfl) | (obtain ⟨_, _, _, _, rfl, _⟩ := h; rfl) | (obtain ⟨_, _, _, _, _, rfl, _⟩ := h; rfl)
  · obtain ⟨a_ENDS, hm_ENDS, sq_ENDS⟩ := T.c_ENDS
    refine ⟨_, (pss_cons (ps_for PassesOwn.never rfl (pi_tup (pe_gt (by rfl) hm_ENDS)) (pg_name (i := 1) sc__begins_host.nd rfl (by first | exact Or.inl rfl | exact Or.inr rfl))
      (pss_one (ps_if (pt_val (pe_c (ok_is_host T) hr (by decide) (by rfl) pass0 (pa_cons (pe_op op_add_str (pv 0) (pv 1)) pa_nil)))
      (pss_one (ps_ret pe_bl))
      pss_nil)))
      (pss_one (ps_ret pe_bl))), ?_⟩
    obtain ⟨x, rfl, hx, hQ⟩ := h
    have hE : ∀ e ∈ tails3, e.length ≤ 2 := by decide +kernel
    have eB : beginsB (tl x) = (tails3.map fun e => hostB (tl x ++ tl e)).any id := by
      unfold beginsB tails3
      simp only [List.map_cons, List.map_nil, List.any_cons, List.any_nil, id, Bool.or_false]
      rw [show tl ("" : Str) = [] by decide +kernel, show tl ("a" : Str) = [97] by decide +kernel, show tl (".a" : Str) = [46, 97] by decide +kernel, List.append_nil]
    have sq : ∀ H1 : Hp, SqT K H1 a_ENDS (tails3.map V.str) := sq_ENDS
    refine ⟨_, rfl, ⟨_, sq H⟩, for_tup (K := K) (a := a_ENDS) (xs := tails3.map V.str) (fun i σ H1 => ∃ sv, σ = [some (.str x), sv] ∧ Same H H1 ∧ ((tails3.take i).map fun e => hostB (tl x ++ tl e)).any id = false) ⟨none, rfl, Same.refl _, rfl⟩ (fun i σ H1 _ _ => sq H1) ?_ ?_⟩
    · rintro i v σ H1 hi ⟨sv, rfl, s1, hno⟩
      obtain ⟨e, he, rfl⟩ := strAt hi
      have hem := hE e (List.mem_of_getElem? he)
      refine ⟨_, rfl, _, rfl, _, _, rfl, rfl, Nat.le_trans (by omega : _ ≤ 2000) (by decide), .str (x ++ e), _, rfl, .inl ⟨_, rfl, by rw [Str.length_append]; omega, rfl⟩, fun H2 s2 => ⟨_, rfl, ?_⟩⟩
      rw [tl_append]
      cases hb : hostB (tl x ++ tl e) with
      | true =>
        refine iteT ?_
        have q := hQ _ (s1.trans s2)
        rw [eB, show (tails3.map fun e => hostB (tl x ++ tl e)).any id = true from List.any_eq_true.mpr ⟨true, List.mem_map.mpr ⟨e, List.mem_of_getElem? he, hb⟩, rfl⟩] at q
        exact q
      | false =>
        refine iteF ⟨_, rfl, s1.trans s2, ?_⟩
        rw [List.take_succ, he]
        show ((tails3.take i ++ [e]).map fun e => hostB (tl x ++ tl e)).any id = false
        rw [List.map_append, List.any_append, hno]
        simp [hb]
    · rintro σ H1 ⟨sv, rfl, s1, hno⟩
      rw [List.length_map, List.take_length] at hno
      have q := hQ _ s1
      rw [eB, hno] at q
      exact q
theorem ok__told_place (T : Txt K mg) : Cal P w K mg base CX0 7 "_told_place" ["text"] sp__told_place := by
  refine T.d__told_place.ok0 sc__told_place (fun vs H Q E h => ?_) (fun f cdv A outer s H vs Q E hr h => ?_)
  · first | (obtain ⟨_, rfl, _⟩ := h; rfl) | (obtain ⟨_, _, rfl, _⟩ := h; rfl) | (obtain ⟨_, _, _, rfl, _⟩ := h; rfl) | (obtain ⟨_, _, _, _, rfl, _⟩ := h; rfl) | (obtain ⟨_, _, _, _, _, rfl, _⟩ := h; rfl)
  · refine ⟨_, (pss_cons (ps_for PassesOwn.never rfl (pi_range2 (by rfl) T.b_range (pa_cons pe_int (pa_cons (pe_op op_add (pe_callB call_len_str (by rfl) T.b_len (by decide +kernel) (pa_cons (pv 0) pa_nil)) pe_int) pa_nil))) (pg_name (i := 1) sc__told_place.nd rfl (by first | exact Or.inl rfl | exact Or.inr rfl))
      (pss_cons (ps_set (i := 2) sc__told_place.nd rfl (by first | exact Or.inl rfl | exact Or.inr rfl) (pe_slice sl_str (pv 0) po_none (po_some (pv 1))))
      (pss_one (ps_if (PW.pt (pw_and (pt_not (pt_val (pe_c (ok__tells_host T) hr (by decide) (by rfl) pass0 (pa_cons (pv 2) pa_nil)))) (pw_and1 (pt_not (pt_val (pe_c (ok__begins_host T) hr (by decide) (by rfl) pass0 (pa_cons (pe_lower (pv 2)) pa_nil)))))))
      (pss_one (ps_ret (pv 1)))
      pss_nil))))
      (pss_one (ps_ret (pe_op op_add (pe_callB call_len_str (by rfl) T.b_len (by decide +kernel) (pa_cons (pv 0) pa_nil)) pe_int)))), ?_⟩
    obtain ⟨x, rfl, ⟨hx, ax⟩, hQ⟩ := h
    have sz : x.length ≤ sizeLine := Nat.le_trans (by omega : _ ≤ 1000) (by decide)
    have ll : (lowL x).length = x.length := by unfold lowL; rw [List.length_map, ← len_tl]
    refine ⟨_, rfl, x, rfl, sz, _, _, rfl, rfl, 1, _, rfl, ⟨by decide, by decide, by omega, by omega⟩, ?_⟩
    rw [show ((x.length : Int) + 1 - 1).toNat = x.length by omega]
    refine for_range (n := x.length) (fun i σ H1 => ∃ v1 v2, σ = [some (.str x), v1, v2] ∧ Same H H1 ∧ ∀ j, j < i → goodL ((lowL x).take (j + 1)) = true) ⟨none, none, rfl, Same.refl _, fun j hj => absurd hj (Nat.not_lt_zero j)⟩ ?_ ?_
    · rintro i σ H1 hi ⟨v1, v2, rfl, s1, hg⟩
      refine ⟨_, rfl, _, rfl, _, rfl, x, rfl, sz, ?_⟩
      have eb : tl (cutS x none (some (1 + (i : Int)))) = (tl x).take (i + 1) := by
        rw [cutS_to x (by omega), show (1 + (i : Int)).toNat = i + 1 by omega]
      have el : lowL (cutS x none (some (1 + (i : Int)))) = (lowL x).take (i + 1) := by
        unfold lowL
        rw [eb, List.map_take]
      have sb : smallS (cutS x none (some (1 + (i : Int)))) := ⟨Nat.le_trans cut_len hx, ax.cut⟩
      generalize cutS x none (some (1 + (i : Int))) = b at eb el sb
      refine ⟨_, rfl, b, rfl, sb, fun H2 s2 => ⟨_, rfl, ?_⟩⟩
      have fine : goodL ((lowL x).take (i + 1)) = true → ∀ j, j < i + 1 → goodL ((lowL x).take (j + 1)) = true := fun g j hj => by
        rcases Nat.lt_succ_iff_lt_or_eq.mp hj with q | q
        · exact hg j q
        · rw [q]; exact g
      rw [el]
      cases ht : tellsL ((lowL x).take (i + 1)) with
      | true =>
        refine iteF (iteF ⟨_, _, rfl, s1.trans s2, fine (by unfold goodL; rw [ht]; rfl)⟩)
      | false =>
        have al := sb.2.low
        refine iteT ⟨_, rfl, ⟨_, rfl⟩, _, rfl, rfl, Nat.le_trans sb.1 (by decide), _, rfl, by rw [al.2]; exact sb.1, fun H3 s3 => ⟨_, rfl, ?_⟩⟩
        rw [lower_tl sb.2, show (tl b).map lo1 = (lowL x).take (i + 1) from el]
        cases hb : beginsB ((lowL x).take (i + 1)) with
        | true => exact iteF ⟨_, _, rfl, (s1.trans s2).trans s3, fine (by unfold goodL; rw [ht, hb]; rfl)⟩
        | false =>
          refine iteT ⟨_, rfl, ?_⟩
          have := hQ (i + 1) _ (.inr ⟨by omega, by rw [ll]; omega, by unfold goodL; rw [ht, hb]; rfl, fun j hj => hg j (by omega)⟩) ((s1.trans s2).trans s3)
          rw [show ((i + 1 : Nat) : Int) = 1 + (i : Int) by omega] at this
          exact this
    · rintro σ H1 ⟨v1, v2, rfl, s1, hg⟩
      refine ⟨_, rfl, x, rfl, sz, _, _, rfl, rfl, ?_⟩
      have := hQ (x.length + 1) _ (.inl ⟨by rw [ll], fun j hj => hg j (by rw [ll] at hj; exact hj)⟩) s1
      exact this
theorem ok_host_of (T : Txt K mg) : Cal P w K mg base (L2.CX P w) 8 "host_of" ["text"] (sp_host_of K mg) := by
  refine T.d_host_of.okX sc_host_of (fun vs H Q E h => ?_) (fun f cdv A outer s H vs Q E hr h => ?_)
  · first | (obtain ⟨_, rfl, _⟩ := h; rfl) | (obtain ⟨_, _, rfl, _⟩ := h; rfl) | (obtain ⟨_, _, _, rfl, _⟩ := h; rfl) | (obtain ⟨_, _, _, _, rfl, _⟩ := h; rfl) | (obtain ⟨_, _, _, _, _, rfl, _⟩ := h; rfl)
  · obtain ⟨C_BadHost, e_BadHost⟩ := T.e_BadHost
    refine ⟨_, (pss_cons (ps_if (pt_not (pt_val (pe_callB call_isi (by rfl) T.b_isinstance (by decide +kernel) (pa_cons (pv 0) (pa_cons (pe_bltn (v := .ty "str") (by rfl) T.b_str (by decide +kernel) rfl) pa_nil)))))
      (pss_one (ps_raiseE rfl e_BadHost hr (by decide) pass0 (takes_of rfl rfl rfl rfl) (pa_cons pe_int pa_nil) (by rfl)))
      pss_nil)
      (pss_cons (ps_if (pt_not (pt_val (pe_c (ok__tells_host T) hr (by decide) (by rfl) pass0 (pa_cons (pv 0) pa_nil))))
      (pss_one (ps_raiseE rfl e_BadHost hr (by decide) pass0 (takes_of rfl rfl rfl rfl) (pa_cons (pe_c (ok__told_place T) hr (by decide) (by rfl) pass0 (pa_cons (pv 0) pa_nil)) pa_nil) (by rfl)))
      pss_nil)
      (pss_one (ps_ret (pe_lower (pe_m1 PySem.F.slot_str_removesuffix PySem.F.type_str_removesuffix mt_removesuffix (pv 0) pe_str)))))), ?_⟩
    obtain ⟨v, rfl, h⟩ := h
    rcases h with ⟨x, rfl, hx, q1, q2⟩ | ⟨t, ht, hk, q⟩
    · refine ⟨_, rfl, _, _, _, _, true, rfl, .ty _, .base (.str x), kit_str K, _, rfl, iteF ?_⟩
      refine ⟨_, rfl, x, rfl, hx, fun H1 s1 => ⟨_, rfl, ?_⟩⟩
      cases hb : tellsL (lowL x) with
      | true =>
        refine iteF ⟨_, rfl, ⟨_, rfl⟩, _, _, rfl, rfl, Nat.le_trans hx.1 (by decide), ⟨_, rfl⟩, _, rfl, rfl, Nat.le_trans (Nat.le_trans (rs_len x) hx.1) (by decide), q1 hb _ _ (lowT_tl hx.2) s1⟩
      | false =>
        refine iteT ⟨_, rfl, x, rfl, hx, fun k H2 hk s2 => ⟨_, rfl, fun d hd => q2 hb k C_BadHost d _ hk e_BadHost.g (s1.trans s2) hd⟩⟩
    · refine ⟨_, rfl, _, _, _, _, false, rfl, .ty _, ht, hk, _, rfl, iteT ⟨_, rfl, fun d hd => q C_BadHost d _ e_BadHost.g (Same.refl _) hd⟩⟩
theorem ok__law_told (T : Txt K mg) : Cal P w K mg base CX0 9 "_law_told" ["text"] (sp__law_told K) := by
  refine T.d__law_told.ok0 sc__law_told (fun vs H Q E h => ?_) (fun f cdv A outer s H vs Q E hr h => ?_)
  · first | (obtain ⟨_, rfl, _⟩ := h; rfl) | (obtain ⟨_, _, rfl, _⟩ := h; rfl) | (obtain ⟨_, _, _, rfl, _⟩ := h; rfl) | (obtain ⟨_, _, _, _, rfl, _⟩ := h; rfl) | (obtain ⟨_, _, _, _, _, rfl, _⟩ := h; rfl)
  · obtain ⟨C_BadHost, e_BadHost⟩ := T.e_BadHost
    refine ⟨_, (pss_cons (ps_try_as (i := 2) rfl rfl sc__law_told.nd rfl rfl ⟨rfl, by decide, Or.inl e_BadHost.g⟩ takes0
      (fun W pn xe tk po => (pss_one (ps_set (i := 1) sc__law_told.nd rfl (by first | exact Or.inl rfl | exact Or.inr rfl) (pe_cX (ok_host_of T) hr (by decide) (by rfl) tk (pa_cons (pv 0) pa_nil)))))
      (fun a oe cls d pn hz hf => (pss_one (ps_ret (pe_xf e_BadHost.X e_BadHost.no hz hf (pv 2))))))
      (pss_one (ps_ret (pe_lst (pa_cons (pv 1) pa_nil))))), ?_⟩
    obtain ⟨v, rfl, h⟩ := h
    rcases h with ⟨x, rfl, hx, q⟩ | ⟨t, ht, hk, q⟩
    · refine ⟨_, rfl, .str x, rfl, .inl ⟨x, rfl, hx, fun hb y H1 ey s1 => ?_, fun hb k C d H1 hk hC s1 hd => ?_⟩⟩
      · refine ⟨_, rfl, by show 1 ≤ sizeLine; decide, fun p hp => q _ _ (s1.trans (Same.new hp)) (.inl ⟨hb, p, y, rfl, upd_same, ey⟩)⟩
      · have eC : C = C_BadHost := by
          have := hC.symm.trans e_BadHost.g
          cases this; rfl
        subst eC
        refine ⟨true, e_BadHost.te, fun _ a0 _ => ?_, fun g => Bool.noConfusion g⟩
        exact ⟨_, rfl, rfl, rfl, d, _, _, rfl, upd_same, by simp [List.lookup], q _ _ (s1.trans (Same.new hd)) (.inr ⟨hb, k, rfl, hk⟩)⟩
    · refine ⟨_, rfl, _, rfl, .inr ⟨t, ht, hk, fun C d H1 hC s1 hd => ?_⟩⟩
      have eC : C = C_BadHost := by
        have := hC.symm.trans e_BadHost.g
        cases this; rfl
      subst eC
      refine ⟨true, e_BadHost.te, fun _ a0 _ => ?_, fun g => Bool.noConfusion g⟩
      exact ⟨_, rfl, rfl, rfl, d, _, _, rfl, upd_same, by simp [List.lookup], q _ (s1.trans (Same.new hd))⟩
theorem ok_law {f : Addr} {fd : FuncData} (F : Fun K "law" "law" s_law f fd) (T : Txt K mg) : FnG P w K mg base CX0 10 f fd ["script"] (sp_law K) := by
  refine Kb.Fun.okG F sc_law (fun vs H Q E h => ?_) (fun cdv A outer s H vs Q E hgd hr h => ?_)
  · first | (obtain ⟨_, rfl, _⟩ := h; rfl) | (obtain ⟨_, _, rfl, _⟩ := h; rfl) | (obtain ⟨_, _, _, rfl, _⟩ := h; rfl) | (obtain ⟨_, _, _, _, rfl, _⟩ := h; rfl) | (obtain ⟨_, _, _, _, _, rfl, _⟩ := h; rfl)
  · refine ⟨_, (pss_cons (ps_for PassesOwn.never rfl (pi_enum (by rfl) T.b_enumerate (pa_cons (pe_op op_cat (pe_slice sl_list (pv 0) po_none (po_some pe_int)) (pe_lst (pa_cons (pe_callB (cr_sum rfl) (by rfl) T.b_sum (by decide +kernel) (pa_cons (pv 0) pa_nil)) pa_nil))) pa_nil)) (pg_tup rfl (pgs_cons (pg_name (i := 1) sc_law.nd rfl (by first | exact Or.inl rfl | exact Or.inr rfl)) (pgs_cons (pg_name (i := 2) sc_law.nd rfl (by first | exact Or.inl rfl | exact Or.inr rfl)) pgs_nil)))
      (pss_cons (ps_set (i := 3) sc_law.nd rfl (by first | exact Or.inl rfl | exact Or.inr rfl) (pe_c (ok__law_draw T) hr (by decide) (by rfl) pass0 (pa_cons (pv 2) (pa_cons (pv 1) pa_nil))))
      (pss_cons (ps_for PassesOwn.never rfl (pi_range1 (by rfl) T.b_range (pa_cons pe_int pa_nil)) (pg_name (i := 4) sc_law.nd rfl (by first | exact Or.inl rfl | exact Or.inr rfl))
      (pss_cons (ps_set (i := 5) sc_law.nd rfl (by first | exact Or.inl rfl | exact Or.inr rfl) (pe_c (ok__law_text T) hr (by decide) (by rfl) pass0 (pa_cons (pv 3) pa_nil)))
      (pss_one (ps_if (pt_cmpR (op_ne) (pe_callB (call_reprD (repr_u hr) hgd) (by rfl) T.b_repr (by decide +kernel) (pa_cons (pe_c (ok__law_told T) hr (by decide) (by rfl) pass0 (pa_cons (pv 5) pa_nil)) pa_nil)) (pe_callB (call_reprD (repr_u hr) hgd) (by rfl) T.b_repr (by decide +kernel) (pa_cons (pe_c (ok__law_due T) hr (by decide) (by rfl) pass0 (pa_cons (pv 5) pa_nil)) pa_nil)) (nomark _))
      (pss_one (ps_ret pe_bl))
      pss_nil))))
      (pss_cons (ps_set (i := 6) sc_law.nd rfl (by first | exact Or.inl rfl | exact Or.inr rfl) (pe_ix ix_list (pe_lst (pa_cons pe_non (pa_cons pe_int (pa_cons (pe_tup (pa_cons pe_str pa_nil)) (pa_cons (pe_lst (pa_cons pe_str pa_nil)) (pa_cons pe_bl (pa_cons pe_dnewK pa_nil))))))) (pe_c (ok__law_digit T) hr (by decide) (by rfl) pass0 (pa_cons (pv 3) (pa_cons pe_int pa_nil))) (fun _ _ => rfl)))
      (pss_cons (ps_if (PW.pt (pw_or (pt_cmpR (op_ne) (pe_c (ok__law_told T) hr (by decide) (by rfl) pass0 (pa_cons (pv 6) pa_nil)) pe_int (nomark _)) (pw_or (pt_cmpR (op_ne) (pe_c (ok__law_told T) hr (by decide) (by rfl) pass0 (pa_cons pe_str pa_nil)) pe_int (nomark _)) (pw_or (pt_cmpR (op_ne) (pe_c (ok__law_told T) hr (by decide) (by rfl) pass0 (pa_cons pe_str pa_nil)) pe_int (nomark _)) (pw_or1 (pt_cmpR (op_ne) (pe_c (ok__law_told T) hr (by decide) (by rfl) pass0 (pa_cons pe_str pa_nil)) pe_int (nomark _)))))))
      (pss_one (ps_ret pe_bl))
      pss_nil)
      (pss_cons (ps_set (i := 7) sc_law.nd rfl (by first | exact Or.inl rfl | exact Or.inr rfl) (pe_op op_add_str (pe_op op_add_str (pe_join pe_str (pe_op op_rep (pe_lst (pa_cons (pe_op op_mulS pe_str pe_int) pa_nil)) pe_int)) pe_str) (pe_ix ix_list (pe_lst (pa_cons pe_str (pa_cons pe_str (pa_cons pe_str pa_nil)))) (pe_c (ok__law_digit T) hr (by decide) (by rfl) pass0 (pa_cons (pv 3) (pa_cons pe_int pa_nil))) (fun _ _ => rfl))))
      (pss_one (ps_if (PW.pt (pw_or (pt_cmpR (op_ne) (pe_callB (call_reprD (repr_u hr) hgd) (by rfl) T.b_repr (by decide +kernel) (pa_cons (pe_c (ok__law_told T) hr (by decide) (by rfl) pass0 (pa_cons (pv 7) pa_nil)) pa_nil)) (pe_callB (call_reprD (repr_u hr) hgd) (by rfl) T.b_repr (by decide +kernel) (pa_cons (pe_c (ok__law_due T) hr (by decide) (by rfl) pass0 (pa_cons (pv 7) pa_nil)) pa_nil)) (nomark _)) (pw_or1 (pt_cmpR (op_ne) (pe_callB (call_reprD (repr_u hr) hgd) (by rfl) T.b_repr (by decide +kernel) (pa_cons (pe_c (ok__law_told T) hr (by decide) (by rfl) pass0 (pa_cons (pe_op op_add_str (pv 7) pe_str) pa_nil)) pa_nil)) (pe_callB (call_reprD (repr_u hr) hgd) (by rfl) T.b_repr (by decide +kernel) (pa_cons (pe_c (ok__law_due T) hr (by decide) (by rfl) pass0 (pa_cons (pe_op op_add_str (pv 7) pe_str) pa_nil)) pa_nil)) (nomark _)))))
      (pss_one (ps_ret pe_bl))
      pss_nil))))))))
      (pss_one (ps_ret pe_bl))), ?_⟩
    obtain ⟨a0, ns, rfl, hS, hlen, hQ⟩ := h
    refine ⟨_, rfl, 5, rfl, a0, _, rfl, hS, fun p hp => ?_⟩
    have s1 : Same H (upd H p (.lst (cutV (ns.map V.int) none (some 5)))) := Same.new hp
    refine ⟨_, rfl, a0, ns, rfl, s1.seq hS, by show 1 ≤ sizeLine; decide, fun p2 hp2 => ?_⟩
    have s2 := Same.new (o := HO.lst [V.int ns.sum]) hp2
    have hc6 : cutV (ns.map V.int) none (some 5) = (ns.take 5).map V.int := by
      rw [cutV_to _ (by decide), List.map_take]; rfl
    rw [hc6] at s1 s2 ⊢
    have l6 : (ns.take 5).length ≤ 5 := by rw [List.length_take]; omega
    refine ⟨_, _, _, _, rfl, rfl, s2 _ _ upd_same, upd_same, Nat.le_trans (by rw [List.length_map]; show _ + 1 ≤ 100; omega) (by decide : 100 ≤ sizeLine), fun p3 hp3 => ?_⟩
    have s3 := Same.new (o := HO.lst ((ns.take 5).map V.int ++ [V.int ns.sum])) hp3
    have hm : upd (upd (upd H p (.lst ((ns.take 5).map V.int))) p2 (.lst [V.int ns.sum])) p3 (.lst ((ns.take 5).map V.int ++ [V.int ns.sum])) p3 = some (.lst ((ns.take 5).map V.int ++ [V.int ns.sum])) := upd_same
    generalize (upd (upd (upd H p (.lst ((ns.take 5).map V.int))) p2 (.lst [V.int ns.sum])) p3 (.lst ((ns.take 5).map V.int ++ [V.int ns.sum]))) = Hb at hm ⊢
    have hxs : ∀ i x, ((ns.take 5).map V.int ++ [V.int ns.sum])[i]? = some x → i ≤ 5 ∧ ∃ z : Int, x = .int z := fun i x hi => by
      have h1 := (List.getElem?_eq_some_iff.mp hi).1
      have h2 := List.mem_of_getElem? hi
      rw [List.length_append, List.length_map, List.length_singleton] at h1
      refine ⟨by omega, ?_⟩
      rw [List.mem_append, List.mem_map, List.mem_singleton] at h2
      rcases h2 with ⟨z, _, rfl⟩ | rfl <;> exact ⟨_, rfl⟩
    generalize ((ns.take 5).map V.int ++ [V.int ns.sum]) = xs at hm hxs
    refine ⟨p3, xs, rfl, SqL.of hm, for_enum (K := K) (a := p3) (xs := xs) (fun i σ H' => ∃ v1 v2 v3 v4 v5 v6 v7 : Option V, σ = [some (.ref a0), v1, v2, v3, v4, v5, v6, v7] ∧ Same Hb H')
      ⟨none, none, none, none, none, none, none, rfl, Same.refl _⟩ (fun i σ H' _ ⟨_, _, _, _, _, _, _, _, q⟩ => SqL.of (q _ _ hm)) ?_ ?_⟩
    · rintro i x T σ H1 hi ⟨v1, v2, v3, v4, v5, v6, v7, rfl, sb⟩ hT
      obtain ⟨hi6, z, rfl⟩ := hxs i x hi
      refine ⟨T, _, rfl, SqT.of upd_same, rfl, _, _, rfl, _, _, rfl, rfl, ?_⟩
      have sT := sb.trans (Same.new (o := HO.tup [V.int (i : Nat), V.int z]) hT)
      refine ⟨_, rfl, _, rfl, z, i, rfl, by omega, by omega, fun d H2 sd hd D => ?_⟩
      have hbd : Hb d = none := sT.free hd
      have sb2 : Same Hb H2 := sT.trans sd
      refine ⟨8, rfl, by decide, by decide, for_range (n := 8) (fun i1 σ H3 => ∃ v4 v5 v6 v7 : Option V, σ = [some (.ref a0), some (.int (i : Nat)), some (.int z), some (.ref d), v4, v5, v6, v7] ∧ Same Hb H3 ∧ DrawAt H3 d (10000 - 500 * i1)) ⟨v4, v5, v6, v7, rfl, sb2, D.less (by decide)⟩ ?_ ?_⟩
      · rintro i1 σ H3 hi1 ⟨v4, v5, v6, v7, rfl, sb3, D3⟩
        refine ⟨_, rfl, d, 9500 - 500 * i1, rfl, D3.less (by omega), fun t H4 ht at4 k4 D4 => ?_⟩
        have sb4 : Same Hb H4 := fun b o e => k4 b o (sb3 b o e) (ne_of_none e hbd)
        have hml : (lowL t).length ≤ 1000 := by unfold lowL; rw [List.length_map, ← len_tl]; omega
        have hma : ∀ s ∈ lowL t, s < 128 := fun s hs => by rw [show lowL t = tl (Txt.lower t) from (lower_tl at4).symm] at hs; exact at4.low.1 s hs
        refine ⟨_, rfl, .str t, rfl, .inl ⟨t, rfl, ⟨by omega, at4⟩, fun r5 H5 s5 a5 => ?_⟩⟩
        obtain ⟨d5, dp5, g1, g2, g3, g4, is5⟩ := ans_repr (K := K) a5 hml hma
        refine ⟨r5, d5, rfl, dp5, g1, g2, g3, g4, ?_⟩
        refine ⟨_, rfl, t, rfl, by omega, at4, fun r6 H6 s6 a6 => ?_⟩
        obtain ⟨d6, dp6, e1, e2, e3, e4, is6⟩ := ans_repr (K := K) a6 hml hma
        refine ⟨r6, d6, rfl, dp6, e1, e2, e3, e4, rfl, _, rfl, ?_⟩
        rw [is5.uniq is6, show (!decide (V.str d6.shown = V.str d6.shown)) = false by simp]
        exact iteF ⟨_, _, _, _, rfl, (sb4.trans s5).trans s6, (D4.same (s5.trans s6)).less (by omega)⟩
      · rintro σ H3 ⟨v4, v5, v6, v7, rfl, sb3, D3⟩
        -- odd
        refine ⟨by show 1 ≤ sizeLine; decide, fun q1 hq1 => ?_⟩
        refine ⟨by show 1 ≤ sizeLine; decide, fun q2 hq2 => ?_⟩
        refine fun q3 hq3 => ?_
        refine ⟨by show 6 ≤ sizeLine; decide, fun q4 hq4 => ?_⟩
        have n1 := Same.new (o := HO.tup [V.str ("a" : Str)]) hq1
        have n2 := Same.new (o := HO.lst [V.str ("a" : Str)]) hq2
        have n3 := Same.new (o := HO.dK []) hq3
        have n4 := Same.new (o := HO.lst [V.non, V.int 5, V.ref q1, V.ref q2, V.bl true, V.ref q3]) hq4
        have s34 := ((n1.trans n2).trans n3).trans n4
        have a1 := n4 _ _ (n3 _ _ (n2 _ _ (upd_same (H := H3) (a := q1) (o := HO.tup [V.str ("a" : Str)]))))
        have a2 := n4 _ _ (n3 _ _ (upd_same (a := q2) (o := HO.lst [V.str ("a" : Str)])))
        have a3 := n4 _ _ (upd_same (a := q3) (o := HO.dK []))
        have a4 : (upd (upd (upd (upd H3 q1 (.tup [V.str ("a" : Str)])) q2 (.lst [V.str ("a" : Str)])) q3 (.dK [])) q4 (.lst [V.non, V.int 5, V.ref q1, V.ref q2, V.bl true, V.ref q3])) q4 = some (.lst [V.non, V.int 5, V.ref q1, V.ref q2, V.bl true, V.ref q3]) := upd_same
        generalize (upd (upd (upd (upd H3 q1 (.tup [V.str ("a" : Str)])) q2 (.lst [V.str ("a" : Str)])) q3 (.dK [])) q4 (.lst [V.non, V.int 5, V.ref q1, V.ref q2, V.bl true, V.ref q3])) = H4 at s34 a1 a2 a3 a4 ⊢
        have D4 := (D3.same s34).less (show 5000 ≤ 10000 - 500 * 8 by decide)
        obtain ⟨ld, cd', td, hd3, _⟩ := id D3
        have ne : ∀ q : Addr, H3 q = none → q ≠ d := fun q h e => by rw [e, hd3] at h; cases h
        have f1 := ne q1 hq1
        have f2 := ne q2 (Same.newer n1 hq2)
        have f3 := ne q3 (Same.newer (n1.trans n2) hq3)
        have f4 := ne q4 (Same.newer ((n1.trans n2).trans n3) hq4)
        refine ⟨_, rfl, d, 6, 4999, rfl, by decide, by decide, D4, fun r H5 h05 h15 k5 D5 => ?_⟩
        obtain ⟨v, hv, ha⟩ := menu (xs := [V.non, V.int 5, V.ref q1, V.ref q2, V.bl true, V.ref q3]) (i := r) h05 (by show r < 6; omega)
        refine ⟨q4, _, _, _, rfl, rfl, SqL.of (k5 _ _ a4 f4), ha, ?_⟩
        have hty : ∃ t : Value, TyX K H5 v t ∧ PySem.W.kitOne K t (.type "str") = some false := by
          simp only [List.mem_cons, List.not_mem_nil, or_false] at hv
          rcases hv with rfl | rfl | rfl | rfl | rfl | rfl
          · exact ⟨_, .base .non, kit_ty (by decide +kernel)⟩
          · exact ⟨_, .base (.int 5), kit_ty (by decide +kernel)⟩
          · exact ⟨_, .base (.tup (k5 _ _ a1 f1)), kit_ty (by decide +kernel)⟩
          · exact ⟨_, .base (.lst (k5 _ _ a2 f2)), kit_ty (by decide +kernel)⟩
          · exact ⟨_, .base (.bl true), kit_ty (by decide +kernel)⟩
          · exact ⟨_, .base (.dK (k5 _ _ a3 f3)), kit_ty (by decide +kernel)⟩
        obtain ⟨tv, hty1, hty2⟩ := hty
        have sb5 : Same Hb H5 := fun b o e => k5 b o ((sb3.trans s34) b o e) (ne_of_none e hbd)
        refine ⟨_, rfl, v, rfl, .inr ⟨tv, hty1, hty2, fun H6 s6 => ⟨rfl, _, rfl, iteF ?_⟩⟩⟩
        have small : ∀ x : Str, x.length ≤ 10 → (tl x).all (· < 128) = true → smallS x := fun x h1 h2 => ⟨by omega, ascii_lit h2⟩
        refine ⟨.str ("" : Str), rfl, .inl ⟨_, rfl, small _ (by decide +kernel) (by decide +kernel), fun r7 H7 s7 an7 => ?_⟩⟩
        have l7 : lowL ("" : Str) = [] := by decide +kernel
        rw [l7] at an7
        cases ans_is an7 place_empty.1 place_empty.2
        refine ⟨rfl, _, rfl, iteF ?_⟩
        refine ⟨.str ("." : Str), rfl, .inl ⟨_, rfl, small _ (by decide +kernel) (by decide +kernel), fun r8 H8 s8 an8 => ?_⟩⟩
        have l8 : lowL ("." : Str) = [46] := by decide +kernel
        rw [l8] at an8
        cases ans_is an8 place_dot.1 place_dot.2
        refine ⟨rfl, _, rfl, iteF ?_⟩
        refine ⟨.str ("a.." : Str), rfl, .inl ⟨_, rfl, small _ (by decide +kernel) (by decide +kernel), fun r9 H9 s9 an9 => ?_⟩⟩
        have l9 : lowL ("a.." : Str) = [97, 46, 46] := by decide +kernel
        rw [l9] at an9
        cases ans_is an9 place_dots.1 place_dots.2
        refine ⟨rfl, _, rfl, iteF ?_⟩
        have s59 := ((s6.trans s7).trans s8).trans s9
        have sb9 := sb5.trans s59
        have D9 := D5.same s59
        have dot1 : ("." : Str).length = 1 := by decide +kernel
        refine ⟨⟨_, rfl⟩, _, _, rfl, rfl, by decide, by decide, by decide +kernel, fun y hy => ?_⟩
        have ay : ascii y := ascii.rep (ascii_lit (by decide +kernel)) hy
        have ly : (tl y).length ≤ 19 := by rw [hy, PyProof.Rows.lm_len_rep_flat, show (tl ("a" : Str)).length = 1 by decide +kernel]; decide
        refine ⟨by show 1 ≤ sizeLine; decide, fun L hL => ?_⟩
        refine ⟨_, _, _, rfl, rfl, upd_same, by decide, by decide, by show 1 * 5 ≤ sizeLine; decide, fun L2 hL2 => ?_⟩
        have sL := (Same.new (o := HO.lst [V.str y]) hL).trans (Same.new (o := HO.lst (List.replicate (5 : Int).toNat [V.str y]).flatten) hL2)
        have hW5 := words_len (W := [y, y, y, y, y]) (B := 19) fun x hx => by
          simp only [List.mem_cons, List.not_mem_nil, or_false, or_self] at hx
          rw [hx]; exact ly
        refine ⟨_, L2, [y, y, y, y, y], rfl, rfl, .inl (SqL.of (by rw [upd_same]; rfl)), by rw [dot1]; show _ + 5 * 1 ≤ _; have : [y, y, y, y, y].length = 5 := rfl; rw [this] at hW5; omega, ?_⟩
        have aw : ascii (Txt.join ("." : Str) [y, y, y, y, y]) := ascii.join (ascii_lit (by decide +kernel)) fun x hx => by
          simp only [List.mem_cons, List.not_mem_nil, or_false, or_self] at hx
          rw [hx]; exact ay
        have lw : (Txt.join ("." : Str) [y, y, y, y, y]).length ≤ 100 := by
          rw [len_tl, words_join]
          have := joinL_len (c := 46) (B := 19) ([y, y, y, y, y].map tl) fun l hl => by
            simp only [List.map_cons, List.map_nil, List.mem_cons, List.not_mem_nil, or_false, or_self] at hl
            rw [hl]; exact ly
          exact Nat.le_trans this (by show 5 * 20 ≤ 100; decide)
        generalize Txt.join ("." : Str) [y, y, y, y, y] = w5 at aw lw ⊢
        refine ⟨_, _, rfl, rfl, Nat.le_trans (by omega : _ ≤ 1000) (by decide), ?_⟩
        refine ⟨by show 3 ≤ sizeLine; decide, fun p6 hp6 => ?_⟩
        have s10 := s59.trans (sL.trans (Same.new (o := HO.lst [V.str ("a" : Str), V.str ("0" : Str), V.str ("-" : Str)]) hp6))
        have D10 := D5.same s10
        have f6 : p6 ≠ d := (D5.same (s59.trans sL)).ne hp6
        refine ⟨_, rfl, d, 3, 4000, rfl, by decide, by decide, D10.less (by decide), fun r H11 h011 h111 k11 D11 => ?_⟩
        obtain ⟨v, hv, ha⟩ := menu (xs := [V.str ("a" : Str), V.str ("0" : Str), V.str ("-" : Str)]) (i := r) h011 (by show r < 3; omega)
        obtain ⟨c, rfl, ac, lc⟩ : ∃ x : Str, v = .str x ∧ ascii x ∧ x.length ≤ 2 := by
          simp only [List.mem_cons, List.not_mem_nil, or_false] at hv
          rcases hv with rfl | rfl | rfl <;> exact ⟨_, rfl, ascii_lit (by decide +kernel), by decide +kernel⟩
        refine ⟨p6, _, _, _, rfl, rfl, SqL.of (k11 _ _ upd_same f6), ha, _, _, rfl, rfl, Nat.le_trans (by rw [Str.length_append]; omega : _ ≤ 1000) (by decide), ?_⟩
        have sb11 : Same Hb H11 := fun b o e => k11 b o ((sb5.trans s10) b o e) (ne_of_none e hbd)
        have arow := (aw.app (ascii_lit (x := ("." : Str)) (by decide +kernel))).app ac
        have lrow : ((w5 ++ ("." : Str)) ++ c).length ≤ 110 := by rw [Str.length_append, Str.length_append]; omega
        generalize (w5 ++ ("." : Str)) ++ c = row at arow lrow ⊢
        have pair : ∀ t : Str, t.length ≤ 200 → ascii t → (lowL t).length ≤ 1000 ∧ ∀ s ∈ lowL t, s < 128 := fun t ht at4 => ⟨by unfold lowL; rw [List.length_map, ← len_tl]; omega, fun s hs => by rw [show lowL t = tl (Txt.lower t) from (lower_tl at4).symm] at hs; exact at4.low.1 s hs⟩
        obtain ⟨b1, b2⟩ := pair row (by omega) arow
        refine ⟨_, rfl, .str row, rfl, .inl ⟨row, rfl, ⟨by omega, arow⟩, fun r12 H12 s12 a12 => ?_⟩⟩
        obtain ⟨d12, dp12, g1, g2, g3, g4, is12⟩ := ans_repr (K := K) a12 b1 b2
        refine ⟨r12, d12, rfl, dp12, g1, g2, g3, g4, ?_⟩
        refine ⟨_, rfl, row, rfl, by omega, arow, fun r13 H13 s13 a13 => ?_⟩
        obtain ⟨d13, dp13, e1, e2, e3, e4, is13⟩ := ans_repr (K := K) a13 b1 b2
        refine ⟨r13, d13, rfl, dp13, e1, e2, e3, e4, rfl, _, rfl, ?_⟩
        rw [is12.uniq is13, show (!decide (V.str d13.shown = V.str d13.shown)) = false by simp]
        refine iteF ?_
        have arow2 := arow.app (ascii_lit (x := ("." : Str)) (by decide +kernel))
        have lrow2 : (row ++ ("." : Str)).length ≤ 120 := by rw [Str.length_append]; omega
        have szr : row.length + ("." : Str).length ≤ sizeLine := Nat.le_trans (by omega : _ ≤ 1000) (by decide)
        obtain ⟨b3, b4⟩ := pair (row ++ ("." : Str)) (by omega) arow2
        refine ⟨_, rfl, _, _, rfl, rfl, szr, .str (row ++ ("." : Str)), rfl, .inl ⟨_, rfl, ⟨by omega, arow2⟩, fun r14 H14 s14 a14 => ?_⟩⟩
        obtain ⟨d14, dp14, i1, i2, i3, i4, is14⟩ := ans_repr (K := K) a14 b3 b4
        refine ⟨r14, d14, rfl, dp14, i1, i2, i3, i4, ?_⟩
        refine ⟨_, rfl, _, _, rfl, rfl, szr, row ++ ("." : Str), rfl, by omega, arow2, fun r15 H15 s15 a15 => ?_⟩
        obtain ⟨d15, dp15, j1, j2, j3, j4, is15⟩ := ans_repr (K := K) a15 b3 b4
        refine ⟨r15, d15, rfl, dp15, j1, j2, j3, j4, rfl, _, rfl, ?_⟩
        rw [is14.uniq is15, show (!decide (V.str d15.shown = V.str d15.shown)) = false by simp]
        exact iteF ⟨_, _, _, _, _, _, _, rfl, (((sb11.trans s12).trans s13).trans s14).trans s15⟩
    · rintro σ H1 ⟨v1, v2, v3, v4, v5, v6, v7, rfl, sb⟩
      exact hQ _
end
theorem bd__law_draw : ∀ (kV doc pm : Value) (an : Option Addr) (cdv ct : Value) (us : List Value), us.length = (["cell", "k"] : List Str).length → bindArgs (PySem.W.fnOf "_law_draw" "_law_draw" (defArgs s__law_draw) (defBody s__law_draw) (defScope s__law_draw) .none kV doc pm an cdv ct) ⟨us, []⟩ = pure ((["cell", "k"] : List Str).zip us) :=
  fun _ _ _ _ _ _ us hl => match us, hl with | [_, _], _ => rfl
theorem bd__law_mixed : ∀ (kV doc pm : Value) (an : Option Addr) (cdv ct : Value) (us : List Value), us.length = (["cell", "k"] : List Str).length → bindArgs (PySem.W.fnOf "_law_mixed" "_law_mixed" (defArgs s__law_mixed) (defBody s__law_mixed) (defScope s__law_mixed) .none kV doc pm an cdv ct) ⟨us, []⟩ = pure ((["cell", "k"] : List Str).zip us) :=
  fun _ _ _ _ _ _ us hl => match us, hl with | [_, _], _ => rfl
theorem bd__law_digit : ∀ (kV doc pm : Value) (an : Option Addr) (cdv ct : Value) (us : List Value), us.length = (["draw", "span"] : List Str).length → bindArgs (PySem.W.fnOf "_law_digit" "_law_digit" (defArgs s__law_digit) (defBody s__law_digit) (defScope s__law_digit) .none kV doc pm an cdv ct) ⟨us, []⟩ = pure ((["draw", "span"] : List Str).zip us) :=
  fun _ _ _ _ _ _ us hl => match us, hl with | [_, _], _ => rfl
theorem bd__law_label : ∀ (kV doc pm : Value) (an : Option Addr) (cdv ct : Value) (us : List Value), us.length = (["draw"] : List Str).length → bindArgs (PySem.W.fnOf "_law_label" "_law_label" (defArgs s__law_label) (defBody s__law_label) (defScope s__law_label) .none kV doc pm an cdv ct) ⟨us, []⟩ = pure ((["draw"] : List Str).zip us) :=
  fun _ _ _ _ _ _ us hl => match us, hl with | [_], _ => rfl
theorem bd__law_text : ∀ (kV doc pm : Value) (an : Option Addr) (cdv ct : Value) (us : List Value), us.length = (["draw"] : List Str).length → bindArgs (PySem.W.fnOf "_law_text" "_law_text" (defArgs s__law_text) (defBody s__law_text) (defScope s__law_text) .none kV doc pm an cdv ct) ⟨us, []⟩ = pure ((["draw"] : List Str).zip us) :=
  fun _ _ _ _ _ _ us hl => match us, hl with | [_], _ => rfl
theorem bd__law_is_label : ∀ (kV doc pm : Value) (an : Option Addr) (cdv ct : Value) (us : List Value), us.length = (["text"] : List Str).length → bindArgs (PySem.W.fnOf "_law_is_label" "_law_is_label" (defArgs s__law_is_label) (defBody s__law_is_label) (defScope s__law_is_label) .none kV doc pm an cdv ct) ⟨us, []⟩ = pure ((["text"] : List Str).zip us) :=
  fun _ _ _ _ _ _ us hl => match us, hl with | [_], _ => rfl
theorem bd__law_is_numeric : ∀ (kV doc pm : Value) (an : Option Addr) (cdv ct : Value) (us : List Value), us.length = (["text"] : List Str).length → bindArgs (PySem.W.fnOf "_law_is_numeric" "_law_is_numeric" (defArgs s__law_is_numeric) (defBody s__law_is_numeric) (defScope s__law_is_numeric) .none kV doc pm an cdv ct) ⟨us, []⟩ = pure ((["text"] : List Str).zip us) :=
  fun _ _ _ _ _ _ us hl => match us, hl with | [_], _ => rfl
theorem bd__law_is_host : ∀ (kV doc pm : Value) (an : Option Addr) (cdv ct : Value) (us : List Value), us.length = (["text"] : List Str).length → bindArgs (PySem.W.fnOf "_law_is_host" "_law_is_host" (defArgs s__law_is_host) (defBody s__law_is_host) (defScope s__law_is_host) .none kV doc pm an cdv ct) ⟨us, []⟩ = pure ((["text"] : List Str).zip us) :=
  fun _ _ _ _ _ _ us hl => match us, hl with | [_], _ => rfl
theorem bd__law_tells : ∀ (kV doc pm : Value) (an : Option Addr) (cdv ct : Value) (us : List Value), us.length = (["text"] : List Str).length → bindArgs (PySem.W.fnOf "_law_tells" "_law_tells" (defArgs s__law_tells) (defBody s__law_tells) (defScope s__law_tells) .none kV doc pm an cdv ct) ⟨us, []⟩ = pure ((["text"] : List Str).zip us) :=
  fun _ _ _ _ _ _ us hl => match us, hl with | [_], _ => rfl
theorem bd__law_begins : ∀ (kV doc pm : Value) (an : Option Addr) (cdv ct : Value) (us : List Value), us.length = (["text"] : List Str).length → bindArgs (PySem.W.fnOf "_law_begins" "_law_begins" (defArgs s__law_begins) (defBody s__law_begins) (defScope s__law_begins) .none kV doc pm an cdv ct) ⟨us, []⟩ = pure ((["text"] : List Str).zip us) :=
  fun _ _ _ _ _ _ us hl => match us, hl with | [_], _ => rfl
theorem bd__law_due : ∀ (kV doc pm : Value) (an : Option Addr) (cdv ct : Value) (us : List Value), us.length = (["text"] : List Str).length → bindArgs (PySem.W.fnOf "_law_due" "_law_due" (defArgs s__law_due) (defBody s__law_due) (defScope s__law_due) .none kV doc pm an cdv ct) ⟨us, []⟩ = pure ((["text"] : List Str).zip us) :=
  fun _ _ _ _ _ _ us hl => match us, hl with | [_], _ => rfl
theorem bd_has_only : ∀ (kV doc pm : Value) (an : Option Addr) (cdv ct : Value) (us : List Value), us.length = (["text", "signs"] : List Str).length → bindArgs (PySem.W.fnOf "has_only" "has_only" (defArgs s_has_only) (defBody s_has_only) (defScope s_has_only) .none kV doc pm an cdv ct) ⟨us, []⟩ = pure ((["text", "signs"] : List Str).zip us) :=
  fun _ _ _ _ _ _ us hl => match us, hl with | [_, _], _ => rfl
theorem bd_is_digits : ∀ (kV doc pm : Value) (an : Option Addr) (cdv ct : Value) (us : List Value), us.length = (["text"] : List Str).length → bindArgs (PySem.W.fnOf "is_digits" "is_digits" (defArgs s_is_digits) (defBody s_is_digits) (defScope s_is_digits) .none kV doc pm an cdv ct) ⟨us, []⟩ = pure ((["text"] : List Str).zip us) :=
  fun _ _ _ _ _ _ us hl => match us, hl with | [_], _ => rfl
theorem bd__is_label : ∀ (kV doc pm : Value) (an : Option Addr) (cdv ct : Value) (us : List Value), us.length = (["text"] : List Str).length → bindArgs (PySem.W.fnOf "_is_label" "_is_label" (defArgs s__is_label) (defBody s__is_label) (defScope s__is_label) .none kV doc pm an cdv ct) ⟨us, []⟩ = pure ((["text"] : List Str).zip us) :=
  fun _ _ _ _ _ _ us hl => match us, hl with | [_], _ => rfl
theorem bd_are_labels : ∀ (kV doc pm : Value) (an : Option Addr) (cdv ct : Value) (us : List Value), us.length = (["texts"] : List Str).length → bindArgs (PySem.W.fnOf "are_labels" "are_labels" (defArgs s_are_labels) (defBody s_are_labels) (defScope s_are_labels) .none kV doc pm an cdv ct) ⟨us, []⟩ = pure ((["texts"] : List Str).zip us) :=
  fun _ _ _ _ _ _ us hl => match us, hl with | [_], _ => rfl
theorem bd__is_number : ∀ (kV doc pm : Value) (an : Option Addr) (cdv ct : Value) (us : List Value), us.length = (["label"] : List Str).length → bindArgs (PySem.W.fnOf "_is_number" "_is_number" (defArgs s__is_number) (defBody s__is_number) (defScope s__is_number) .none kV doc pm an cdv ct) ⟨us, []⟩ = pure ((["label"] : List Str).zip us) :=
  fun _ _ _ _ _ _ us hl => match us, hl with | [_], _ => rfl
theorem bd__are_four_numbers : ∀ (kV doc pm : Value) (an : Option Addr) (cdv ct : Value) (us : List Value), us.length = (["labels"] : List Str).length → bindArgs (PySem.W.fnOf "_are_four_numbers" "_are_four_numbers" (defArgs s__are_four_numbers) (defBody s__are_four_numbers) (defScope s__are_four_numbers) .none kV doc pm an cdv ct) ⟨us, []⟩ = pure ((["labels"] : List Str).zip us) :=
  fun _ _ _ _ _ _ us hl => match us, hl with | [_], _ => rfl
theorem bd_is_host : ∀ (kV doc pm : Value) (an : Option Addr) (cdv ct : Value) (us : List Value), us.length = (["value"] : List Str).length → bindArgs (PySem.W.fnOf "is_host" "is_host" (defArgs s_is_host) (defBody s_is_host) (defScope s_is_host) .none kV doc pm an cdv ct) ⟨us, []⟩ = pure ((["value"] : List Str).zip us) :=
  fun _ _ _ _ _ _ us hl => match us, hl with | [_], _ => rfl
theorem bd__tells_host : ∀ (kV doc pm : Value) (an : Option Addr) (cdv ct : Value) (us : List Value), us.length = (["text"] : List Str).length → bindArgs (PySem.W.fnOf "_tells_host" "_tells_host" (defArgs s__tells_host) (defBody s__tells_host) (defScope s__tells_host) .none kV doc pm an cdv ct) ⟨us, []⟩ = pure ((["text"] : List Str).zip us) :=
  fun _ _ _ _ _ _ us hl => match us, hl with | [_], _ => rfl
theorem bd__begins_host : ∀ (kV doc pm : Value) (an : Option Addr) (cdv ct : Value) (us : List Value), us.length = (["text"] : List Str).length → bindArgs (PySem.W.fnOf "_begins_host" "_begins_host" (defArgs s__begins_host) (defBody s__begins_host) (defScope s__begins_host) .none kV doc pm an cdv ct) ⟨us, []⟩ = pure ((["text"] : List Str).zip us) :=
  fun _ _ _ _ _ _ us hl => match us, hl with | [_], _ => rfl
theorem bd__told_place : ∀ (kV doc pm : Value) (an : Option Addr) (cdv ct : Value) (us : List Value), us.length = (["text"] : List Str).length → bindArgs (PySem.W.fnOf "_told_place" "_told_place" (defArgs s__told_place) (defBody s__told_place) (defScope s__told_place) .none kV doc pm an cdv ct) ⟨us, []⟩ = pure ((["text"] : List Str).zip us) :=
  fun _ _ _ _ _ _ us hl => match us, hl with | [_], _ => rfl
theorem bd_host_of : ∀ (kV doc pm : Value) (an : Option Addr) (cdv ct : Value) (us : List Value), us.length = (["text"] : List Str).length → bindArgs (PySem.W.fnOf "host_of" "host_of" (defArgs s_host_of) (defBody s_host_of) (defScope s_host_of) .none kV doc pm an cdv ct) ⟨us, []⟩ = pure ((["text"] : List Str).zip us) :=
  fun _ _ _ _ _ _ us hl => match us, hl with | [_], _ => rfl
theorem bd__law_told : ∀ (kV doc pm : Value) (an : Option Addr) (cdv ct : Value) (us : List Value), us.length = (["text"] : List Str).length → bindArgs (PySem.W.fnOf "_law_told" "_law_told" (defArgs s__law_told) (defBody s__law_told) (defScope s__law_told) .none kV doc pm an cdv ct) ⟨us, []⟩ = pure ((["text"] : List Str).zip us) :=
  fun _ _ _ _ _ _ us hl => match us, hl with | [_], _ => rfl
theorem bd_law : ∀ (kV doc pm : Value) (an : Option Addr) (cdv ct : Value) (us : List Value), us.length = (["script"] : List Str).length → bindArgs (PySem.W.fnOf "law" "law" (defArgs s_law) (defBody s_law) (defScope s_law) .none kV doc pm an cdv ct) ⟨us, []⟩ = pure ((["script"] : List Str).zip us) :=
  fun _ _ _ _ _ _ us hl => match us, hl with | [_], _ => rfl
theorem fin_mk {l : PySem.W.OpenLaw} {w : World} {K : PySem.W.Frag} {mg : Str → Option Value} {fa : Addr} (hfa : mg "law" = some (.ref fa)) (D : Df K mg "law" s_law ["script"]) (T : Txt K mg) :
    ∃ fd : FuncData, (∀ (s : Shared) (v : Value), BindsTo s fd ⟨[v], []⟩ [("script", v)]) ∧ ∀ base : Heap, K.In base → base.Ns PySem.mainGlobals mg → FnG l.prog w K mg base CX0 10 fa fd ["script"] (sp_law K) := by
  obtain ⟨f, fd, F, m, b⟩ := D
  cases hfa.symm.trans m
  exact ⟨fd, fun s v => .of_eq (b [v] rfl), fun base _ _ => ok_law F T⟩
theorem walk {l : PySem.W.OpenLaw} {q : Program} {loose : List Str} {XP : (Str → Option Value) → Heap → Prop} {YP : World → Heap → Prop} {d : DefRec} {K : Params → PySem.W.Frag} (hn : l.most = some 63) (hdf : d.params.defaults = [])
    (hY : ∀ (w : World) (h : Heap), YP w h → (K w.params).In h)
    (F : ∀ (w : World) (mg : Str → Option Value) (fa : Addr) (h : Heap), (K w.params).In h → h.Ns PySem.mainGlobals mg → mg d.name = some (.ref fa) →
      ∃ fd : FuncData, (∀ (s : Shared) (u : Value), BindsTo s fd ⟨[u], []⟩ [("script", u)]) ∧ ∀ base : Heap, (K w.params).In base → base.Ns PySem.mainGlobals mg → FnG l.prog w (K w.params) mg base CX0 10 fa fd ["script"] (sp_law (K w.params))) :
    PySem.W.WalkO q loose XP YP l.row.toRowW d [] (fun f vs => PySem.call f vs) :=
  Kb.walkG (n := 63) (k := 10) (x := "script") (CX := fun _ => CX0) (sp := fun w => sp_law (K w.params)) hn (by decide) hdf ⟨rfl, by decide, by decide⟩ hY F (fun _ _ a ns hl _ hS => ⟨a, ns, rfl, hS, hl, fun _ => rfl⟩) fun _ _ _ _ _ z => z
end Pf
open PySem PySem.W PyProof.Rows
set_option maxRecDepth 100000 in
set_option maxHeartbeats 0 in
theorem PySem.Challenge.cw_crumbjar_k03_whole_host_texts_holds : PySem.Challenge.rw_crumbjar_k03_whole_host_texts.Holds := by
  w_on; o_law; k_head; (case hw => w_witness2)
  k_fill
  refine Pf.walk (l := PySem.Challenge.rw_crumbjar_k03_whole_host_texts) rfl rfl (fun w h Y => PySem.W.kIn_of Y) ?F
  case F =>
    intro w mg fa h KX G hmg
    refine' Pf.fin_mk hmg (Kb.Df.mk KX G Pf.bd_law ?a23 ?l23 ?c23 ?k23) ⟨(PySem.W.mg_none_of KX G ?z0),
      (PySem.W.mg_none_of KX G ?z1),
      (PySem.W.mg_none_of KX G ?z2),
      (PySem.W.mg_none_of KX G ?z3),
      (PySem.W.mg_none_of KX G ?z4),
      (PySem.W.mg_none_of KX G ?z5),
      (PySem.W.mg_none_of KX G ?z6),
      (PySem.W.mg_none_of KX G ?z7),
      ⟨_, PySem.W.mg_of KX G ?x0, ?r0⟩,
      ⟨_, PySem.W.mg_of KX G ?x1, ?r1⟩,
      ⟨_, PySem.W.mg_of KX G ?x2, ?r2⟩,
      ⟨_, PySem.W.mg_of KX G ?x3, ?r3⟩,
      ⟨_, PySem.W.mg_of KX G ?x4, ?r4⟩,
      ⟨_, PySem.W.mg_of KX G ?x5, ?r5⟩,
      ⟨_, PySem.W.mg_of KX G ?x6, Kb.sqT_of_lookup ?y6 ?u6 ?v6⟩,
      ⟨_, Kb.Err.mk' KX G Pf.bi_BadHost (fun P w base F => Pf.oki_BadHost P w base F) ?aC0E ?xL0E ?rv0E ?sa0E ?ga0E ?gg0E ?nb0E ?a10E ?t10E ?l10E ?c10E ?k10E ?kC0E ?eC0E ?tC0E ?hC0E ?iC0E ?sC0E⟩,
      (Kb.Df.mk KX G Pf.bd__law_draw ?a0 ?l0 ?c0 ?k0),
      (Kb.Df.mk KX G Pf.bd__law_mixed ?a1 ?l1 ?c1 ?k1),
      (Kb.Df.mk KX G Pf.bd__law_digit ?a2 ?l2 ?c2 ?k2),
      (Kb.Df.mk KX G Pf.bd__law_label ?a3 ?l3 ?c3 ?k3),
      (Kb.Df.mk KX G Pf.bd__law_text ?a4 ?l4 ?c4 ?k4),
      (Kb.Df.mk KX G Pf.bd__law_is_label ?a5 ?l5 ?c5 ?k5),
      (Kb.Df.mk KX G Pf.bd__law_is_numeric ?a6 ?l6 ?c6 ?k6),
      (Kb.Df.mk KX G Pf.bd__law_is_host ?a7 ?l7 ?c7 ?k7),
      (Kb.Df.mk KX G Pf.bd__law_tells ?a8 ?l8 ?c8 ?k8),
      (Kb.Df.mk KX G Pf.bd__law_begins ?a9 ?l9 ?c9 ?k9),
      (Kb.Df.mk KX G Pf.bd__law_due ?a10 ?l10 ?c10 ?k10),
      (Kb.Df.mk KX G Pf.bd_has_only ?a11 ?l11 ?c11 ?k11),
      (Kb.Df.mk KX G Pf.bd_is_digits ?a12 ?l12 ?c12 ?k12),
      (Kb.Df.mk KX G Pf.bd__is_label ?a13 ?l13 ?c13 ?k13),
      (Kb.Df.mk KX G Pf.bd_are_labels ?a14 ?l14 ?c14 ?k14),
      (Kb.Df.mk KX G Pf.bd__is_number ?a15 ?l15 ?c15 ?k15),
      (Kb.Df.mk KX G Pf.bd__are_four_numbers ?a16 ?l16 ?c16 ?k16),
      (Kb.Df.mk KX G Pf.bd_is_host ?a17 ?l17 ?c17 ?k17),
      (Kb.Df.mk KX G Pf.bd__tells_host ?a18 ?l18 ?c18 ?k18),
      (Kb.Df.mk KX G Pf.bd__begins_host ?a19 ?l19 ?c19 ?k19),
      (Kb.Df.mk KX G Pf.bd__told_place ?a20 ?l20 ?c20 ?k20),
      (Kb.Df.mk KX G Pf.bd_host_of ?a21 ?l21 ?c21 ?k21),
      (Kb.Df.mk KX G Pf.bd__law_told ?a22 ?l22 ?c22 ?k22)⟩
    (case z0 => k_is)
    (case z1 => k_is)
    (case z2 => k_is)
    (case z3 => k_is)
    (case z4 => k_is)
    (case z5 => k_is)
    (case z6 => k_is)
    (case z7 => k_is)
    (case x0 => k_is)
    (case r0 => first | exact ⟨_, rfl⟩ | rfl)
    (case x1 => k_is)
    (case r1 => first | exact ⟨_, rfl⟩ | rfl)
    (case x2 => k_is)
    (case r2 => first | exact ⟨_, rfl⟩ | rfl)
    (case x3 => k_is)
    (case r3 => first | exact ⟨_, rfl⟩ | rfl)
    (case x4 => k_is)
    (case r4 => first | exact ⟨_, rfl⟩ | rfl)
    (case x5 => k_is)
    (case r5 => first | exact ⟨_, rfl⟩ | rfl)
    (case x6 => k_is)
    (case y6 => k_is)
    (case u6 => show _ ≤ _; decide)
    (case v6 => exact .cons ⟨_, rfl⟩ (.cons ⟨_, rfl⟩ (.cons ⟨_, rfl⟩ (.nil))))
    (case aC0E => k_is)
    (case xL0E => k_is)
    (case rv0E => first | decide +kernel | rfl)
    (case sa0E => k_is)
    (case ga0E => k_is)
    (case gg0E => k_is)
    (case nb0E => k_is)
    (case a10E => k_is)
    (case t10E => k_is)
    (case l10E => k_is)
    (case c10E => k_is)
    (case k10E => k_is)
    (case kC0E => k_is)
    (case eC0E => k_is)
    (case tC0E => k_is)
    (case hC0E => k_is)
    (case iC0E => k_is)
    (case sC0E => first | rfl | k_is)
    (case a0 => k_is)
    (case l0 => k_is)
    (case c0 => k_is)
    (case k0 => k_is)
    (case a1 => k_is)
    (case l1 => k_is)
    (case c1 => k_is)
    (case k1 => k_is)
    (case a2 => k_is)
    (case l2 => k_is)
    (case c2 => k_is)
    (case k2 => k_is)
    (case a3 => k_is)
    (case l3 => k_is)
    (case c3 => k_is)
    (case k3 => k_is)
    (case a4 => k_is)
    (case l4 => k_is)
    (case c4 => k_is)
    (case k4 => k_is)
    (case a5 => k_is)
    (case l5 => k_is)
    (case c5 => k_is)
    (case k5 => k_is)
    (case a6 => k_is)
    (case l6 => k_is)
    (case c6 => k_is)
    (case k6 => k_is)
    (case a7 => k_is)
    (case l7 => k_is)
    (case c7 => k_is)
    (case k7 => k_is)
    (case a8 => k_is)
    (case l8 => k_is)
    (case c8 => k_is)
    (case k8 => k_is)
    (case a9 => k_is)
    (case l9 => k_is)
    (case c9 => k_is)
    (case k9 => k_is)
    (case a10 => k_is)
    (case l10 => k_is)
    (case c10 => k_is)
    (case k10 => k_is)
    (case a11 => k_is)
    (case l11 => k_is)
    (case c11 => k_is)
    (case k11 => k_is)
    (case a12 => k_is)
    (case l12 => k_is)
    (case c12 => k_is)
    (case k12 => k_is)
    (case a13 => k_is)
    (case l13 => k_is)
    (case c13 => k_is)
    (case k13 => k_is)
    (case a14 => k_is)
    (case l14 => k_is)
    (case c14 => k_is)
    (case k14 => k_is)
    (case a15 => k_is)
    (case l15 => k_is)
    (case c15 => k_is)
    (case k15 => k_is)
    (case a16 => k_is)
    (case l16 => k_is)
    (case c16 => k_is)
    (case k16 => k_is)
    (case a17 => k_is)
    (case l17 => k_is)
    (case c17 => k_is)
    (case k17 => k_is)
    (case a18 => k_is)
    (case l18 => k_is)
    (case c18 => k_is)
    (case k18 => k_is)
    (case a19 => k_is)
    (case l19 => k_is)
    (case c19 => k_is)
    (case k19 => k_is)
    (case a20 => k_is)
    (case l20 => k_is)
    (case c20 => k_is)
    (case k20 => k_is)
    (case a21 => k_is)
    (case l21 => k_is)
    (case c21 => k_is)
    (case k21 => k_is)
    (case a22 => k_is)
    (case l22 => k_is)
    (case c22 => k_is)
    (case k22 => k_is)
    (case a23 => k_is)
    (case l23 => k_is)
    (case c23 => k_is)
    (case k23 => k_is)
#print axioms PySem.Challenge.cw_crumbjar_k03_whole_host_texts_holds

import PyProof.Rows.All
import HandS.Walk
import HandS.Zip
import HandS.Exc
import KE.GoesZip
import KE.GoesMore
import KE.GoesEnum
import HandS.WordsExc
import HandS.Ends
import HandS.HeadEnd
import KE.KTryMore
import HandS.HotCalls
import HandS.ExcIs
import KE.KExcIs
import HandS.ExcField
import Wide.All
import OpenK.AllK
import Wide.FinOn
import HandS.ForMost
import HandS.Wide
import HandS.ExcOwn
import HandS.TryOnly
import HandS.IsInst
import HandS.Lambda
import PyProof.ReprRoads
import PyProof.ReprLen
import PyProof.CallFns
import KE.SortData
import KE.DataCmp
import HandS.TupAny
import HandS.Deep
import HandS.Style
import HandS.More
import HandS.RaiseMore
import HandS.WideBits
import HandS.WordsDict
import KE.KTupSum
import HandS.IntHex
import HandS.Flow
import HandS.ReCall
import HandS.Strs
import KE.DataMinKey
import KE.KLam
import KE.LtData
import KE.DataMinMax
import HandS.CallRecv
import KE.KCallOwn
import HandS.DictSub
import HandS.Records
import HandS.FStr
import HandS.OwnEq
import HandS.DictComp
import HandS.Small
import KE.KStateDown
import Lean
import HandS.Words
import HandS.Defaults
import HandS.Head0
import HandS.Head1
import HandS.Head2
import HandS.HeadHook1
import HandS.HeadHook2
import HandS.HeadHook3
import HandS.HeadHook4
import KE.KIntText
import PySem.Challenge.RW_wishesrise_k24_limits_and_samples
section
set_option Elab.async false
set_option linter.all false
set_option maxRecDepth 100000
set_option maxHeartbeats 400001
/-! Mu, part Z: zip and enumerate over lists, tuples and texts, in any mixture. -/
namespace Mu
open PySem
open PySem.Spec
open PyProof.Rows
open L2

/-- what may be walked in a zip or an enumerate -/
inductive Src where
  | l (a : Addr) (xs : List V) | t (a : Addr) (xs : List V) | s (z : Str)
namespace Src
def val : Src → V
  | l a _ => .ref a
  | t a _ => .ref a
  | s z => .str z
def there (K : PySem.W.Frag) (H : Hp) : Src → Prop
  | l a xs => SqL K H a xs
  | t a xs => SqT K H a xs
  | s _ => True
def len : Src → Nat
  | l _ xs => xs.length
  | t _ xs => xs.length
  | s z => z.cps.size
def get : Src → Nat → Option V
  | l _ xs, i => xs[i]?
  | t _ xs, i => xs[i]?
  | s z, i => (z.cps[i]?).map fun c => V.str ⟨#[c]⟩
def foot : Src → List Addr
  | l a _ => [a]
  | t a _ => [a]
  | s _ => []
/-- its iterator at the i-th turn -/
def at_ (it : Addr) (tk : Tok) : Src → Nat → Heap → Prop
  | l a _, i, h => h.IsListIter it a i
  | t a _, i, h => h.IsTupleIter it a i
  | s z, i, h => h.IsStrIter it (strIterType z) z tk i
def it0 (tk : Tok) : Src → Obj
  | l a _ => { cls := .type "list_iterator", data := .fields #[.ref a, .int 0 0] }
  | t a _ => { cls := .type "tuple_iterator", data := .fields #[.ref a, .int 0 0] }
  | s z => { cls := .type (strIterType z), data := .fields #[.str z tk, .int 0 0] }
end Src
theorem vals_back {xs : List V} {us : List Value} (r : Vals xs us) {i : Nat} {u : Value} (h : us[i]? = some u) : ∃ x, xs[i]? = some x ∧ RelV x u := by
  obtain ⟨hi,
          e⟩ := List.getElem?_eq_some_iff.mp h
  have hx : i < xs.length := by rw [r.length]; exact hi
  have e1 : xs[i]? = some xs[i] := List.getElem?_eq_getElem hx
  obtain ⟨u', h1, h2⟩ := r.get e1
  rw [h] at h1
  cases h1
  exact ⟨_, e1, h2⟩
section
variable {X : Cx} {pins : List (Addr ×
        Obj)} {σ : L2.St} {H : Hp} {s : Shared}
theorem Src.draws {src : Src} {it : Addr} {tk : Tok} (I : Inv X pins σ H s) (hc : X.calm = true) (hq : src.there X.K H) (hne : it ∉ src.foot) :
    ∃ (P : Nat → Value → Prop) (St : Nat → Heap → Prop), Draws X.prog X.w X.A.in1 it (it :: src.foot) src.len P St ∧ (∀ i, src.at_ it tk i s.heap → St i s.heap) ∧ (∀ i h, St i h → src.at_ it tk i h) ∧ ∀ i v, P i v → ∃ x, src.get i = some x ∧ RelV x v := by
  have hh : X.A.in1.handled = none := I.ok.hd hc
  cases src with
  | l a xs =>
    obtain ⟨its, rv, p, _⟩ := I.list hq
    have D := Draws.list (prog := X.prog) (w := X.w) hh it a (fun e => hne (by rw [← e]; exact List.mem_singleton.mpr rfl)) its.toArray
    have e : (Src.l a xs).len = its.toArray.size := (by show xs.length = _; rw [rv.length]; simp)
    refine ⟨fun i v => its.toArray[i]? = some v, fun i h => h.IsListIter it a i ∧ h.IsList a its.toArray, by rw [e]; exact D, fun i h => ⟨h, p.isList⟩, fun i h q => q.1, fun i v q => ?_⟩
    exact vals_back rv (by simpa using q)
  | t a xs =>
    obtain ⟨its, rv, p, _⟩ := I.tuple hq
    have D := Draws.tuple (prog := X.prog) (w := X.w) hh it a (fun e => hne (by rw [← e]; exact List.mem_singleton.mpr rfl)) its.toArray
    have e : (Src.t a xs).len = its.toArray.size := (by show xs.length = _; rw [rv.length]; simp)
    refine ⟨fun i v => its.toArray[i]? = some v, fun i h => h.IsTupleIter it a i ∧ h.IsTuple a its.toArray, by rw [e]; exact D, fun i h => ⟨h, p⟩, fun i h q => q.1, fun i v q => ?_⟩
    exact vals_back rv (by simpa using q)
  | s z =>
    refine ⟨_, _, Draws.text (prog := X.prog) (w := X.w) hh it z tk, fun i h => h, fun i h q => q, fun i v q => ?_⟩
    obtain ⟨c, u, e1, e2⟩ := q
    exact ⟨.str ⟨#[c]⟩, by show (z.cps[i]?).map _ = _; rw [e1]; rfl, by rw [e2]; exact ⟨u, rfl⟩⟩
theorem Src.keep {src : Src} {it : Addr} {tk : Tok} {i : Nat} {h h' : Heap} (q : src.at_ it tk i h) (k : ∀ o, h.get? it = some o → h'.get? it = some o) : src.at_ it tk i h' := by
  cases src with
  | l a xs => exact Heap.IsListIter.at q k
  | t a xs => exact Heap.IsTupleIter.at q k
  | s z =>
    obtain ⟨o, ho, r⟩ := q
    exact ⟨o, k o ho, r⟩
theorem Src.obj {src : Src} {it : Addr} {tk : Tok} {i : Nat} {h : Heap} (q : src.at_ it tk i h) : ∃ o, h.get? it = some o ∧ ∀ v, o.data ≠ .cell v := by
  cases src with
  | l a xs =>
    obtain ⟨o, ho, _, hd⟩ := q
    exact ⟨o, ho, fun v e => by rw [hd] at e; cases e⟩
  | t a xs =>
    obtain ⟨o, ho, _, hd⟩ := q
    exact ⟨o, ho, fun v e => by rw [hd] at e; cases e⟩
  | s z =>
    obtain ⟨o, ho, _, hd⟩ := q
    exact ⟨o, ho, fun v e => by rw [hd] at e; cases e⟩
theorem Src.first {src : Src} {it : Addr} {tk : Tok} {h : Heap} (q : h.get? it = some (src.it0 tk)) : src.at_ it tk 0 h := by
  cases src with
  | l a xs => exact ⟨_, q, rfl, rfl⟩
  | t a xs => exact ⟨_, q, rfl, rfl⟩
  | s z => exact ⟨_, q, rfl, rfl⟩
/-- where the value is such a thing, its iterator begins -/
theorem Src.begins {src : Src} (I : Inv X pins σ H s) (hq : src.there X.K H) {u : Value} (r : RelV src.val u) :
    ∃ (tk : Tok) (B : Heap → Prop), Begins u (src.it0 tk) B ∧ B s.heap ∧ ∀ a ∈ src.foot, a < s.heap.objs.size := by
  cases src with
  | l a xs =>
    cases r
    obtain ⟨its, rv, p, _⟩ := I.list hq
    refine ⟨0, _, begins_list a its.toArray, p.isList, fun b hb => ?_⟩
    rw [List.mem_singleton.mp hb]
    exact p.lt
  | t a xs =>
    cases r
    obtain ⟨its, rv, p, _⟩ := I.tuple hq
    obtain ⟨o, ho, _⟩ := id p
    refine ⟨0, _, begins_tuple a its.toArray, p, fun b hb => ?_⟩
    rw [List.mem_singleton.mp hb]
    exact Heap.lt_size ho
  | s z =>
    obtain ⟨tk, rfl⟩ := r
    exact ⟨tk, _, begins_text z tk, trivial, fun b hb => by cases hb⟩
end
/-! ### zip -/
def ItzG (K : PySem.W.Frag) (a b : Src) : It :=
  ⟨fun i H => a.there K H ∧ b.there K H ∧ i < min a.len b.len,
    fun i H v H' => ∃ T x y, v = .ref T ∧ H T = none ∧ H' = upd H T (.tup [x, y]) ∧ a.get i = some x ∧ b.get i = some y,
    fun i H => a.there K H ∧ b.there K H ∧ i = min a.len b.len⟩
theorem turn_zipG {P : Program} {w : World} {K : PySem.W.Frag} {elts : List Expr} {kk : Nat} {tpos : Pos} {a b : Src} {N : Nat} {t1 t2 : Tok} (ha : ∀ x ∈ a.foot, x < N) (hb : ∀ x ∈ b.foot, x < N) :
    Turn P w K (.Tuple elts kk tpos) (ItzG K a b) [N + 4, N + 2, N + 3, N, N + 1] (N + 4)
      (fun i h => IsZip h (N + 4) (N + 2) (N + 3) .none ∧ IsTupOf2 h (N + 2) (.ref N) (.ref (N + 1)) ∧ (∃ x y, IsTupOf2 h (N + 3) x y) ∧ a.at_ N t1 i h ∧ b.at_ (N + 1) t2 i h) where
  mem := by simp
  obj := fun i h st c hc => by
    obtain ⟨hz, hTI, ⟨x, y, hTO⟩, q1, q2⟩ := st
    have e : c = N + 4 ∨ c = N + 2 ∨ c = N + 3 ∨ c = N ∨ c = N + 1 := by simpa using hc
    rcases e with rfl | rfl | rfl | rfl | rfl
    · exact ⟨_, hz, fun v q => nomatch q⟩
    · exact ⟨_, hTI, fun v q => nomatch q⟩
    · exact ⟨_, hTO, fun v q => nomatch q⟩
    · exact Src.obj q1
    · exact Src.obj q2
  keep := fun i h h' st k => by
    obtain ⟨hz, hTI, ⟨x, y, hTO⟩, q1, q2⟩ := st
    exact ⟨k _ (by simp) _ hz, k _ (by simp) _ hTI, ⟨x, y, k _ (by simp) _ hTO⟩, Src.keep q1 fun o q => k _ (by simp) o q, Src.keep q2 fun o q => k _ (by simp) o q⟩
  item := by
    intro X hP hw hK hc i
            pins s σ H E I hf st hg
    subst hP hw hK
    obtain ⟨hz, hTI, ⟨x0, y0, hTO⟩, q1, q2⟩ := st
    obtain ⟨g1, g2, hi⟩ := hg
    have n1 : N ∉ a.foot := fun m => Nat.lt_irrefl _ (ha _ m)
    have n2 : N + 1 ∉ b.foot := fun m => by have z : (N + 1 : Nat) < N := hb _ m; omega
    obtain ⟨P1, S1, D1, i1, o1, v1⟩ := Src.draws (tk := t1) I hc g1 n1
    obtain ⟨P2, S2, D2, i2, o2, v2⟩ := Src.draws (tk := t2) I hc g2 n2
    have sz : N + 4 < s.heap.objs.size := Heap.lt_size hz
    refine wpAny_pyNext_zipD2_item (zip_sep2 ha hb) D1 D2 hz hTI hTO (i1 i q1) (i2 i q2) (by omega) (by omega) fun u1 u2 h' tk p1 p2 z' TO' d1 d2 hT hsz hk => ?_
    obtain ⟨x1, e1, r1⟩ := v1 i u1 p1
    obtain ⟨x2, e2, r2⟩ := v2 i u2 p2
    refine ⟨_, rfl, wpAny_letOwnedTupleGo_zip (s := { s with heap := h', toks := tk }) z' fun h'' z'' sb => ?_⟩
    have gt : ∀ {c : Nat}, c ≤ N + 4 → c ≠ s.heap.objs.size := fun {c} hc e => by omega
    have hT2 : IsTupOf2 h'' s.heap.objs.size u1 u2 := (sb.2 _ (fun e => gt (Nat.le_refl _) e.symm)).trans hT
    have new : ObjOk X.prog X.w (upd H s.heap.objs.size (.tup [x1, x2])) h'' s.heap.objs.size (.tup [x1, x2]) := ⟨by show 2 ≤ sizeLine; decide, [u1, u2], .cons r1 (.cons r2 .nil), ⟨_, hT2, rfl, _, rfl⟩⟩
    have up : ∀ c o, c ≠ N + 4 → c ≠ N + 3 → c ≠ N → c ≠ N + 1 → s.heap.get? c = some o → h''.get? c = some o := fun c o c1 c2 c3 c4 q => (sb.2 c c1).trans (hk c o c1 c2 c3 c4 q)
    have I1 : Inv X pins σ (upd H s.heap.objs.size (.tup [x1, x2])) { s with heap := h'', toks := tk } :=
      I.turnedNew (ch := [N + 4, N + 2, N + 3, N, N + 1]) (fun c o hc q => up c o (fun e => hc (by simp [e])) (fun e => hc (by simp [e])) (fun e => hc (by simp [e])) (fun e => hc (by simp [e])) q) hf (Nat.le_refl _) new
    refine ⟨.ref s.heap.objs.size, _, I1, rfl, ⟨_, x1, x2, rfl, I.hok.fresh (Nat.le_refl _), rfl, e1, e2⟩, ⟨z'', ?_, ⟨u1, u2, ?_⟩, ?_, ?_⟩, fun c hcm => ?_⟩
    · exact up _ _ (by show (N + 2 : Nat) ≠ N + 4; omega) (by show (N + 2 : Nat) ≠ N + 3; omega) (by show (N + 2 : Nat) ≠ N; omega) (by show (N + 2 : Nat) ≠ N + 1; omega) hTI
    · exact (sb.2 _ (by show (N + 3 : Nat) ≠ N + 4; omega)).trans TO'
    · exact Src.keep (o1 _ _ d1) fun o q => (sb.2 _ (by show (N : Nat) ≠ N + 4; omega)).trans q
    · exact Src.keep (o2 _ _ d2) fun o q => (sb.2 _ (by show (N + 1 : Nat) ≠ N + 4; omega)).trans q
    · have e : c = N + 4 ∨ c = N + 2 ∨ c = N + 3 ∨ c = N ∨ c = N + 1 := by simpa using hcm
      have hlt : c ≠ s.heap.objs.size := by
        rcases e with rfl | rfl | rfl | rfl | rfl <;> exact gt (by omega)
      rw [upd_ne hlt]
      exact (hf c hcm).1
  done := by
    intro X hP hw hK hc i
            pins s σ H E I hf st hg
    subst hP hw hK
    obtain ⟨hz, hTI, ⟨x0, y0, hTO⟩, q1, q2⟩ := st
    obtain ⟨g1, g2, hi⟩ := hg
    have n1 : N ∉ a.foot := fun m => Nat.lt_irrefl _ (ha _ m)
    have n2 : N + 1 ∉ b.foot := fun m => by have z : (N + 1 : Nat) < N := hb _ m; omega
    obtain ⟨P1, S1, D1, i1, o1, v1⟩ := Src.draws (tk := t1) I hc g1 n1
    obtain ⟨P2, S2, D2, i2, o2, v2⟩ := Src.draws (tk := t2) I hc g2 n2
    exact wpAny_pyNext_zipD2_end (zip_sep2 ha hb) D1 D2 hz hTI hTO (i1 i q1) (i2 i q2) (by omega) (by omega) (by omega) fun h' tk hk => ⟨rfl, I.turnedL (ch := [N + 4, N + 2, N + 3, N, N + 1]) (fun c o hc q =>
      hk c o (fun e => hc (by simp [e])) (fun e => hc (by simp [e])) (fun e => hc (by simp [e])) (fun e => hc (by simp [e])) q) hf⟩
  self := fun A i s Q E st h =>
          wpAny_pyIter_zip st.1 h
def iZipG (K : PySem.W.Frag) (ta : TA) : TI := fun σ H R => ta σ H fun vs H1 => ∃ a b : Src, vs = [a.val, b.val] ∧ a.there K H1 ∧ b.there K H1 ∧ R (ItzG K a b) H1
theorem pi_zipG {X : Cx} {e e2 : Expr} {ta : TA} {p pos tpos : Pos} {elts : List Expr} {kk : Nat} (hg : Gl X "zip") (hm : X.mg "zip" = none) (ha : PA X [e, e2] ta)
    (hs : starEach [e, e2] X.env = (false, eval e X.env) :: starEach [e2] X.env :=
            by rfl) (hpl : (backTo pos (starEach [e2] X.env)).any (·.1) = false := by rfl) :
    PI X (.Tuple elts kk tpos) (.Call (.Name "zip" p) [e, e2] [] pos) (iZipG X.K ta) := by
  refine ⟨fun pins s σ H R I h =>
          ?_⟩
  refine Call_ (ld_blt I hg hm PyProof.Rows.boot_zip (PyProof.Rows.callWith_type1 (thn (ha.run pos pins s σ H _ I h) fun us s1 ⟨vs, H1, I1, r1, a, b, ex, q1, q2, q⟩ => ?_) hs hpl))
  subst ex
  cases r1 with
  | cons k1 rr =>
    cases rr with
    | cons k2 rr =>
      cases rr
      obtain ⟨t1, B1, b1, l1, f1⟩ := Src.begins I1 q1 k1
      obtain ⟨t2, B2, b2, l2, f2⟩ := Src.begins I1 q2 k2
      refine zip_begins2 b1 b2 l1 l2 fun h' hz hTI hTO h1 h2 hsz hk => wpAny_pyIter_zip hz ?_
      have I2 : Inv X pins σ H1 { s1 with heap
              := h' } := I1.kept (t' := s1.toks) hk
      refine ⟨s1.heap.objs.size + 4, _, _, _, H1, rfl, I2, turn_zipG (t1 := t1) (t2 := t2) f1 f2, ⟨hz, hTI, ⟨_, _, hTO⟩, Src.first h1, Src.first h2⟩, fun c hcm => ?_, q⟩
      have hle :
              s1.heap.objs.size ≤ c := by
        have e' : c = s1.heap.objs.size + 4 ∨ c = s1.heap.objs.size + 2 ∨ c = s1.heap.objs.size
                + 3 ∨ c = s1.heap.objs.size ∨ c = s1.heap.objs.size + 1 := by simpa using hcm
        rcases e' with e' | e' | e' | e' | e' <;> rw [e']
        · exact Nat.le_add_right _ _
        · exact Nat.le_add_right _ _
        · exact Nat.le_add_right _ _
        · exact Nat.le_refl _
        · exact Nat.le_add_right _ _
      exact I1.fpOk hle
              (I1.hok.fresh hle)
/-! ### enumerate -/
def IteG (K : PySem.W.Frag) (a : Src) : It :=
  ⟨fun i H => a.there K H ∧ i < a.len,
    fun i H v H' => ∃ T x, v = .ref T ∧ H T = none ∧ H' = upd H T (.tup [.int (i : Nat), x]) ∧ a.get i = some x,
    fun i H => a.there K H ∧ i = a.len⟩
theorem turn_enumG {P : Program} {w : World} {K : PySem.W.Frag} {elts : List Expr} {kk : Nat} {tpos : Pos} {a : Src} {N : Nat} {t1 : Tok} (ha : ∀ x ∈ a.foot, x < N) :
    Turn P w K (.Tuple elts kk tpos) (IteG K a) [N + 1, N] (N + 1) (fun i h => (∃ old, IsEnum h (N + 1) N ((i : Nat) : Int) old) ∧ a.at_ N t1 i h) where
  mem := by simp
  obj := fun i h st c hc => by
    obtain ⟨⟨old, he⟩, q⟩ := st
    have e : c = N + 1 ∨ c = N := by simpa using hc
    rcases e with rfl | rfl
    · exact ⟨_, he, fun v q => nomatch q⟩
    · exact Src.obj q
  keep := fun i h h' st k => by
    obtain ⟨⟨old, he⟩, q⟩ := st
    exact ⟨⟨old, k _ (by simp) _ he⟩, Src.keep q fun o q => k _ (by simp) o q⟩
  item := by
    intro X hP hw hK hc i
            pins s σ H E I hf st hg
    subst hP hw hK
    obtain ⟨⟨old, he⟩, q⟩ := st
    obtain ⟨g1, hi⟩ := hg
    have n1 : N ∉ a.foot := fun m => Nat.lt_irrefl _ (ha _ m)
    have n2 : N + 1 ∉ N :: a.foot := fun m => by
      rcases List.mem_cons.mp m with m | m
      · have m : (N + 1 : Nat) = N := m
        omega
      · have z : (N + 1 : Nat) < N := ha _ m
        omega
    obtain ⟨P1, S1, D1, i1, o1, v1⟩ := Src.draws (tk := t1) I hc g1 n1
    have sz : N + 1 < s.heap.objs.size := Heap.lt_size he
    have ne : (N + 1 : Nat) ≠ N := by omega
    refine wpAny_pyNext_enum_itemD D1 he (i1 i q) hi ne n2 fun u h' tk p1 ho d1 hT hsz hk => ?_
    obtain ⟨x1, e1, r1⟩ := v1 i u p1
    refine ⟨_, rfl, wpAny_letOwnedTupleGo_enum (s := { s with heap := h', toks := tk + 1 }) ho fun h'' he' sb => ?_⟩
    have gt : ∀ {c : Nat}, c ≤ N + 1 → c ≠ s.heap.objs.size := fun {c} hc e => by omega
    have hT2 : h''.get? s.heap.objs.size = some { cls := .type "tuple", data := .seq #[.int i tk, u] } := (sb.2 _ (fun e => gt (Nat.le_refl _) e.symm)).trans hT
    have new : ObjOk X.prog X.w (upd H s.heap.objs.size (.tup [.int (i : Nat), x1])) h'' s.heap.objs.size (.tup [.int (i : Nat), x1]) :=
      ⟨by show 2 ≤ sizeLine; decide, [.int i tk, u], .cons ⟨_, rfl⟩ (.cons r1 .nil), ⟨_, hT2, rfl, _, rfl⟩⟩
    have I1 : Inv X pins σ (upd H s.heap.objs.size (.tup [.int (i : Nat), x1])) { s with heap := h'', toks := tk + 1 } :=
      I.turnedNew (ch := [N + 1, N]) (fun c o hc q => (sb.2 c (fun e => hc (by simp [e]))).trans (hk c o (fun e => hc (by simp [e])) (fun e => hc (by simp [e])) q)) hf (Nat.le_refl _) new
    refine ⟨.ref s.heap.objs.size, _, I1, rfl, ⟨_, x1, rfl, I.hok.fresh (Nat.le_refl _), rfl, e1⟩, ⟨⟨u, ?_⟩, ?_⟩, fun c hcm => ?_⟩
    · have e2 : ((i + 1 : Nat) : Int) = (i : Int) + 1 := by omega
      rw [e2]
      exact he'
    · exact Src.keep (o1 _ _ d1) fun o q => (sb.2 _ (Ne.symm ne)).trans q
    · have e : c = N + 1 ∨ c = N := by simpa using hcm
      have hlt : c ≠ s.heap.objs.size := by rcases e with rfl | rfl <;> exact gt (by omega)
      rw [upd_ne hlt]
      exact (hf c hcm).1
  done := by
    intro X hP hw hK hc i
            pins s σ H E I hf st hg
    subst hP hw hK
    obtain ⟨⟨old, he⟩, q⟩ := st
    obtain ⟨g1, hi⟩ := hg
    have n1 : N ∉ a.foot := fun m => Nat.lt_irrefl _ (ha _ m)
    obtain ⟨P1, S1, D1, i1, o1, v1⟩ := Src.draws (tk := t1) I hc g1 n1
    have q' := i1 i q
    rw [hi] at q' he
    obtain ⟨f0, f1, f2, f3, f4, f5⟩ := hf N (by simp)
    exact wpAny_pyNext_enum_endD D1 he q' fun h' eb => ⟨rfl, I.turned (t' := s.toks) (fun b o hb q => eb b o hb q) f0 f1 f3 f4 f5⟩
  self := fun A i s Q E st h =>
          let ⟨⟨_, he⟩, _⟩ := st; wpAny_pyIter_enum he h
theorem meets_enumB {v : Value} {o : Obj} {B : Heap → Prop} (b : Begins v o B) :
    Meets (Builtin.«enumerate.__new__» ⟨[.type "enumerate", v], []⟩) (fun _ R s => B s.heap ∧
      R (.ok (.ret (.ref (s.heap.push o).objs.size))) { s with heap := (s.heap.push o).push { cls := .type "enumerate", data := .fields #[.none, .bool false, .ref s.heap.objs.size, rawInt 0, .none, .none] } }) :=
  .of_wp fun prog
          w A R s h => by
    obtain ⟨hp, g,
            d, tk, os⟩ := s
    obtain ⟨h1, h⟩ := h
    have hsub := sub_enumerate
    have it1 : ∀ {A' : Around} {E : Value → Shared → Prop} {Q : Value → Shared → Prop}, Q (.ref hp.objs.size) ⟨hp.push o, g, d, tk, os⟩ → wpAny (model prog w) A' (pyIter v) Q E ⟨hp, g, d, tk, os⟩ :=
      fun q => b.iter prog w _ _ ⟨hp, g, d, tk, os⟩ _ h1 q
    wp_walk using it1
    refine wpAny_stack_any fun st =>
            wpAny_pure ?_
    split
    · rename_i c _ _ _ _ _
      cases (c == Value.type "enumerate") <;> (wp_walk using it1; exact ⟨_, rfl, h⟩)
    · wp_walk using it1
      exact ⟨_, rfl, h⟩
theorem enum_beginsG {prog : Program} {w : World} {A : Around} {E : Value → Shared → Prop} {s : Shared} {v : Value} {o : Obj} {B : Heap → Prop} {Q : Value → Shared → Prop} (b : Begins v o B) (h1 : B s.heap)
    (h : ∀ h', IsEnum h' (s.heap.objs.size + 1) s.heap.objs.size 0 .none → h'.get? s.heap.objs.size = some o → (∀ b o, s.heap.get? b = some o → h'.get? b = some o) → Q (.ref (s.heap.objs.size + 1)) { s with heap := h' }) :
    wpAny (model prog w) A (call (.type "enumerate") [v]) Q E s := by
  refine callType_new F.called_enumerate (by decide) (F.typeCall_enumerate_1 _) (F.newCall_enumerate_1 _) (fun obj => F.args_object_init_2 obj _) F.entry_enumerate_new (meets_enumB b) ⟨h1, ?_⟩
  have hz : (s.heap.push o).objs.size =
          s.heap.objs.size + 1 := Heap.size_push ..
  show _ ∧ _
  rw [hz]
  have he : IsEnum ((s.heap.push o).push { cls := .type "enumerate", data := .fields #[.none, .bool false, .ref s.heap.objs.size, rawInt 0, .none, .none] }) (s.heap.objs.size + 1) s.heap.objs.size 0 .none := by
    have q := Heap.get?_push_size (s.heap.push o) (o := { cls := .type "enumerate", data := .fields #[.none, .bool false, .ref s.heap.objs.size, rawInt 0, .none, .none] }) rfl
    rw [hz] at q
    exact q
  exact ⟨⟨_, he, rfl⟩, h _ he (Heap.get?_push_of_some _ (Heap.get?_push_size _ b.free)) fun b o x => Heap.get?_push_of_some _ (Heap.get?_push_of_some _ x)⟩
def iEnumG (K : PySem.W.Frag) (ta : TA) : TI := fun σ H R => ta σ H fun vs H1 => ∃ a : Src, vs = [a.val] ∧ a.there K H1 ∧ R (IteG K a) H1
theorem pi_enumG {X : Cx} {e : Expr} {ta : TA} {p pos tpos : Pos} {elts : List Expr} {kk : Nat} (hg : Gl X "enumerate") (hm : X.mg "enumerate" = none) (ha : PA X [e] ta) (hs : starEach [e] X.env = [(false, eval e X.env)] := by rfl) :
    PI X (.Tuple elts kk tpos) (.Call (.Name "enumerate" p) [e] [] pos) (iEnumG X.K ta) := by
  refine ⟨fun pins s σ H R I h =>
          ?_⟩
  refine Call_ (ld_blt I hg hm boot_enumerate (PyProof.Rows.callWith_type1 (thn (ha.run pos pins s σ H _ I h) fun us s1 ⟨vs, H1, I1, r1, a, ex, q1, q⟩ => ?_) hs rfl))
  subst ex
  cases r1 with
  | cons k1 rr =>
    cases rr
    obtain ⟨t1, B1, b1, l1, f1⟩ := Src.begins I1 q1 k1
    refine enum_beginsG b1 l1 fun h' he h1 hk => wpAny_pyIter_enum he ?_
    have I2 : Inv X pins σ H1 { s1 with heap
            := h' } := I1.kept (t' := s1.toks) hk
    refine ⟨s1.heap.objs.size + 1, _, _, _, H1, rfl, I2, turn_enumG (t1 := t1) f1, ⟨⟨.none, he⟩, Src.first h1⟩, fun c hcm => ?_, q⟩
    have hle :
            s1.heap.objs.size ≤ c := by
      have e' : c = s1.heap.objs.size + 1 ∨ c = s1.heap.objs.size := by simpa using hcm
      rcases e' with e' | e' <;> rw [e']
      · exact Nat.le_add_right _ _
      · exact Nat.le_refl _
    exact I1.fpOk hle
            (I1.hok.fresh hle)
end Mu
end
section
set_option Elab.async false
set_option linter.all false
set_option maxRecDepth 100000
set_option maxHeartbeats 400001
/-! Mu, part G: what a def promises where nothing is being shown by repr (so that repr of lists and tuples may be asked within). -/
namespace Mu
open PySem
open PySem.Spec
open PyProof.Rows
open L2
section
variable {P : Program} {w : World} {K : PySem.W.Frag} {mg : Str → Option Value} {base : Heap} {k : Nat} {f : Addr} {fd : FuncData} {ps : List Str} {sp : Sp}
/-- as FnOk, where no repr is under way -/
structure FnG (P : Program) (w : World) (K : PySem.W.Frag) (mg : Str → Option Value) (base : Heap) (k : Nat) (f : Addr) (fd : FuncData) (ps : List Str) (sp : Sp) : Prop where
  len : ∀ vs H Q E,
          sp vs H Q E → vs.length = ps.length
  run : ∀ (A : Around) (outer : List PySem.Env) (s : Shared) (H : Hp) (args : Args) (us : List Value) (vs : List V) (Q : VK) (E : XK), Room k A → A.guards = some [] → Env0 P w K mg base A outer s H → BindsTo s fd args (ps.zip us) → Vals vs us → sp vs H Q E →
    codeAny (model P w) A (.call (.ref f) args) (CR (L2.CX P w) outer P w H s Q E) s
/-- a def of the text, by its body's reading -/
theorem fnG {x qual : Str} {st : Stmt} {N : List Str} (F : Fun K x qual st f fd) (S : FnScope N ps (defScope st)) (len : ∀ vs H Q E, sp vs H Q E → vs.length = ps.length)
    (body : ∀ (cdv : Value) (_ : fd.code = cdv) (A : Around) (outer : List PySem.Env) (s : Shared) (H : Hp) (vs : List V) (Q : VK) (E : XK), Room k (A.deeper (envOfC qual (defScope st) s.heap.objs.size f cdv)) → A.guards = some [] → sp vs H Q E →
      ∃ t, PSs (cxOf (L2.CX P w) P w K mg base N qual (defScope st) f cdv A outer s H E) (defBody st) t ∧ t { nx := fun _ H' => Q .non H', rt := Q } (L2.start N vs) H) : FnG P w K mg base (k + 1) f fd ps sp := by
  obtain ⟨oc, od, kV, doc, pm, an, cdv, ct, osl, rfl, look, code⟩ := F.ex
  constructor
  · exact len
  intro A outer s H args us vs Q E room gu e0 bind rel hsp
  have old : ∀ b o, base.get? b = some o → s.heap.get? b = some o := fun b o e => (e0.bs b o e).1
  have inK : K.In s.heap := e0.mod.kin.keeps old
  have noLim : s.heap.NoLimit := e0.mod.nolimit.keeps old
  have names : ∀ q ∈ ps.zip us, (defScope st).names.lookup q.1 = some .local ∨ ((defScope st).names.lookup q.1 = some .cell ∧ ((cellsFrom (s.heap.objs.size + 1) (defScope st).names []).lookup q.1).isSome = true) := by
    rintro ⟨n, u⟩ hq
    cases S.par n (List.of_mem_zip hq).1 with
    | inl h => exact .inl h
    | inr h => exact .inr ⟨h, PySem.W.cellsFrom_some _ _ _ (.inl h)⟩
  apply codeAny_call_function room.depth (inK _ _ look) rfl S.co S.gen rfl (PySem.W.codeRec_of inK code)
  apply bind
  apply wpAny_newFunctionEnv_cells S.kind names
  intro env same s1 call
  subst same
  refine ⟨noLim.keeps call.toInCall.keep, codeAny_func ?_⟩
  obtain ⟨t, read, asks⟩ := body cdv rfl A outer s H vs Q E (room.deeper _) gu hsp
  have I := inv_start (CX := L2.CX P w) (E := E) (cd := cdv) S room.hd e0 (len _ _ _ _ hsp) rel call
  refine wpAny_mono (read.run [] s1 (L2.start N vs) H _ I asks) ?_ (fun e s' h => h)
  intro fl s' h
  cases fl with
  | ret u => obtain ⟨v, σ', H', J, r, q⟩ := h; exact ⟨v, H', J.os, J.bare, J.base, J.hok, r, q⟩
  | next => obtain ⟨σ', H', J, q⟩ := h; exact ⟨V.non, H', J.os, J.bare, J.base, J.hok, rfl, q⟩
  | brk => obtain ⟨_, _, _, q⟩ := h; exact q.elim
  | cont => obtain ⟨_, _, _, q⟩ := h; exact q.elim
theorem guards_make {A : Around} {C : Addr} {us : List Value} {kw : List (Str × Value)} (h : A.guards = some []) : (A.under (.builtin "type.__call__" ⟨.ref C :: us, kw⟩)).guards = some [] := by
  have e : (Code.builtin "type.__call__" ⟨.ref C :: us, kw⟩).guards = [] := by
    unfold Code.guards
    rw [if_neg (by first | decide | simp [Code.isGuard, guardIds])]
  show pushGuards (Code.builtin "type.__call__" ⟨.ref C :: us, kw⟩).guards A.guards = some []
  rw [e, h]
  rfl
/-- what stands behind a call of the law: True, nothing of the old heap altered -/
def LawEnd (s₁ : Shared) (r : Result) (s' : Shared) : Prop := r = .ok (.ret (.bool true)) ∧ OldK s₁.heap s'.heap ∧ s'.os = s₁.os ∧ AllBare s'.gens
/-- a heap in which the script alone is tracked, or nothing -/
structure Lone (P : Program) (w : World) (K : PySem.W.Frag) (s₁ : Shared) (a : Addr) (H : Hp) : Prop where
  only : Only H
  ok : HOk P w H s₁.heap
  at_ : ∀ b, H b ≠ none → b = a
  out : H a ≠ none → K.lookup a = none
theorem law_lone {a : Addr} {s₁ : Shared} {vs : List Value} {H : Hp} {mb : Str → Option Value} {x : Str} {fa : Addr} (L : Lone P w K s₁ a H) (inK : K.In s₁.heap) (ns₁ : s₁.heap.Ns mainGlobals mg) (nb : s₁.heap.Ns builtinsNs mb) (hbb : ∀ x : Str, x ≠ "__name__" → mb x = bootBuiltins x)
    (lim : s₁.heap.NoLimit) (hg : s₁.gens = #[]) (ha : s₁.heap.get? a = some { cls := .type "list", data := .seq vs.toArray }) (hr : Room k callerA) (F : ∀ base : Heap, K.In base → base.Ns mainGlobals mg → FnG P w K mg base k fa fd [x] sp)
    (hb : ∀ (s : Shared) (u : Value), BindsTo s fd ⟨[u], []⟩ [(x, u)]) (hsp : sp [.ref a] H (fun v _ => v = .bl true) fun _ _ _ => False) : codeAny (model P w) callerA (.call (.ref fa) ⟨[.ref a], []⟩) (LawEnd s₁) s₁ := by
  -- the tracked script hidden, the rest is the base
  have keep : ∀ {b : Addr} {o : Obj}, s₁.heap.get? b = some o → H b = none → (hidT s₁.heap H).get? b = some o := fun h n => hidT_get h n
  have noDict : ∀ {b : Addr} {o : Obj} {es : Array DictEntry} {ep : Nat}, s₁.heap.get? b = some o → o.data = .dict es ep → H b = none := by
    intro b o es ep h d
    refine Classical.byContradiction fun z => ?_
    rw [L.at_ b z, ha] at h
    have e := Option.some.inj h
    rw [← e] at d
    exact Data.noConfusion d
  have names : ∀ {b : Addr} {m : Str → Option Value}, s₁.heap.Ns b m → (hidT s₁.heap H).Ns b m := by
    rintro b m ⟨o, es, ep, h, d, r⟩
    exact ⟨o, es, ep, keep h (noDict h d), d, r⟩
  have inB : K.In (hidT s₁.heap H) := by
    intro b o h
    refine keep (inK b o h) (Classical.byContradiction fun z => ?_)
    have e := L.at_ b z
    subst e
    rw [L.out z] at h
    cases h
  obtain ⟨mc, c1, c2⟩ := lim
  have M : Mod K mg (hidT s₁.heap H) := ⟨inB, names ns₁, ⟨mb, names nb, hbb⟩, mc, names c1, c2⟩
  have E0 : Env0 P w K mg (hidT s₁.heap H) callerA [] s₁ H := ⟨rfl, M, fun b o h => of_hidT h, Nat.le_of_eq (hidT_size _ _), trivial, (fun b h => by cases (show b ∈ ([] : List Addr) from h)), L.ok, .of_eq hg⟩
  refine codeAny_mono ((F _ inB (names ns₁)).run callerA [] s₁ H ⟨[.ref a], []⟩ [.ref a] [.ref a] _ _ hr rfl E0 (hb s₁ (.ref a)) (.cons rfl .nil) hsp) ?_
  intro r s' q
  cases r with
  | error e =>
    obtain ⟨_, _, _, _, _, _, _, _, _, _, _, _, z⟩ := q
    exact z.elim
  | ok fl =>
    cases fl with
    | next => exact q.elim
    | brk => exact q.elim
    | cont => exact q.elim
    | ret u =>
      obtain ⟨v, H', os, bare, un, ok', rel, rfl⟩ := q
      refine ⟨congrArg (fun z => Except.ok (Flow.ret z)) rel, OldK.of_keep ?_, os, bare⟩
      intro b o h
      rcases L.only b with z | ⟨ob, xs, z⟩
      · exact un.keep b o h z (fun m => by cases (show b ∈ ([] : List Addr) from m)) (fun m => by cases (show b ∈ ([] : List Addr) from m))
      · have h1 := (L.ok b _ z).1
        have h2 := (ok' b _ (un.frzs b ob _ z)).1
        rw [h] at h1
        rw [Option.some.inj h1]
        exact h2
theorem law_callG {a : Addr} {s₁ : Shared} {vs : List Value} {ns : List Int} {mb : Str → Option Value} {x : Str} {fa : Addr} (inK : K.In s₁.heap) (ns₁ : s₁.heap.Ns mainGlobals mg) (nb : s₁.heap.Ns builtinsNs mb) (hbb : ∀ x : Str, x ≠ "__name__" → mb x = bootBuiltins x)
    (lim : s₁.heap.NoLimit) (hg : s₁.gens = #[]) (ha : s₁.heap.get? a = some { cls := .type "list", data := .seq vs.toArray }) (hi : IntsAre vs ns) (hl : ns.length ≤ sizeLine) (hr : Room k callerA) (F : ∀ base : Heap, K.In base → base.Ns mainGlobals mg → FnG P w K mg base k fa fd [x] sp)
    (hb : ∀ (s : Shared) (u : Value), BindsTo s fd ⟨[u], []⟩ [(x, u)]) (hsp : ∀ H : Hp, Only H → SqL K H a (ns.map V.int) → sp [.ref a] H (fun v _ => v = .bl true) fun _ _ _ => False) : codeAny (model P w) callerA (.call (.ref fa) ⟨[.ref a], []⟩) (LawEnd s₁) s₁ := by
  have rv := vals_ints hi
  have len := hi.length
  cases own : K.lookup a with
  | some o =>
    have e := inK a o own
    rw [ha] at e
    have e := Option.some.inj e
    subst e
    have L : Lone P w K s₁ a fun _ => none := ⟨fun _ => .inl rfl, fun b u z => (by cases (show (none : Option HO) = some u from z)), fun b z => (z rfl).elim, fun z => (z rfl).elim⟩
    exact law_lone L inK ns₁ nb hbb lim hg ha hr F hb (hsp _ L.only (.inr ⟨_, vs.toArray, _, own, rfl, rfl, rfl, (by rw [List.size_toArray, len]; exact hl), by simpa using rv⟩))
  | none =>
    let ob : Obj := { cls := .type "list", data := .seq vs.toArray }
    let H : Hp := fun b => if b = a then some (.frz ob (.lst (ns.map V.int))) else none
    have yes : H a = some (.frz ob (.lst (ns.map V.int))) := if_pos rfl
    have no : ∀ {b}, b ≠ a → H b = none := fun h => if_neg h
    have L : Lone P w K s₁ a H := by
      refine ⟨fun b => ?_, fun b u z => ?_, fun b z => ?_, fun _ => own⟩
      · by_cases e : b = a
        · rw [e]; exact .inr ⟨_, _, yes⟩
        · exact .inl (no e)
      · by_cases e : b = a
        · rw [e] at z ⊢
          rw [yes] at z
          cases z
          exact ⟨ha, (by show (ns.map V.int).length ≤ sizeLine; rw [List.length_map]; exact hl), vs, _, rv, ha⟩
        · rw [no e] at z
          cases z
      · exact Classical.byContradiction fun e => z (no e)
    exact law_lone L inK ns₁ nb hbb lim hg ha hr F hb (hsp _ L.only (.inl (.inr ⟨ob, yes⟩)))
/-- the end over a head by facts -/
theorem walkG {l : PySem.W.OpenLaw} {n k : Nat} {q : Program} {loose : List Str} {XP : (Str → Option Value) → Heap → Prop} {YP : World → Heap → Prop} {d : DefRec} {x : Str} (hn : l.most = some n) (hn2 : n ≤ sizeLine) (hdf : d.params.defaults = []) (hr : Room k callerA)
    (F : ∀ (w : World) (mg : Str → Option Value) (fa : Addr) (h : Heap),
            YP w h → h.Ns mainGlobals mg → mg d.name = some (.ref fa) →
      ∃ (K : PySem.W.Frag) (fd : FuncData) (sp : Sp),
              K.In h ∧ (∀ (s : Shared) (u : Value), BindsTo s fd ⟨[u], []⟩ [(x, u)]) ∧
        (∀ (H : Hp) (a : Addr) (ns : List Int), ns.length ≤ n → Only H → SqL K H a (ns.map V.int) → sp [.ref a] H (fun v _ =>
                v = .bl true) fun _ _ _ => False) ∧
        ∀ base : Heap, K.In base → base.Ns mainGlobals mg → FnG l.prog w K mg base k fa fd [x] sp) :
    PySem.W.WalkO q loose XP YP l.row.toRowW d [] (fun f vs =>
            PySem.call f vs) := by
  apply Att.attach_call hn hdf
  intro w s₀ s₁ mg mb fa o pm cd doc a vs ns G Y ho hd hcd hmg hobj hints hlen hg
  obtain ⟨K, fd, sp, inK, hb, hsp, hF⟩ := F w mg fa _ Y G.T.g hmg
  exact law_callG inK G.T.g G.T.b G.T.builtins G.T.nolimit hg hobj hints (Nat.le_trans hlen hn2) hr hF hb fun H hO hS => hsp H a ns hlen hO hS
end
end Mu
end
section
set_option Elab.async false
set_option linter.all false
set_option maxRecDepth 100000
set_option maxHeartbeats 4000010
/-! Mu, part R: try: .. / except (A, B, C) as e: .. -/
namespace Mu
open PySem
open PySem.Spec
open PyProof.Rows
open L2
/-- an exception in flight, while all objects stay -/
theorem flying_keeps {B h h' : Heap} {l : List PySem.Env} {a : Addr} {Z : Obj → Prop} (x : HandSPX.FlyingZ B l a Z h) (k : ∀ b o, h.get? b = some o → h'.get? b = some o) : HandSPX.FlyingZ B l a Z h' := by
  obtain ⟨x1, x2, x3, oe, vs, T, oT, ts, a1, a2, a3, a4, a5, a6, a7, a8, a9⟩ := x
  exact ⟨fun b o e => k b o (x1 b o e), x2, Heap.FunFrames.of_keeps (fun b o e _ => ⟨o, k b o e, rfl⟩) x3, oe, vs, T, oT, ts, k _ _ a1, a2, a3, a4, a5, a6, k _ _ a7, a8, a9⟩
/-- what the clause 'except (..) as n' wishes of an exception of the body: slot i is n's -/
def wAsM (K : PySem.W.Frag) (cs : List Value) (i : Nat) (ts : Addr → Value → Option Addr → TS) (Wout : WX) (D : Ends) : WX := fun cls d σ H =>
  ∃ b, PySem.W.exmAny K cls cs = some b ∧ (b = true → ∀ a, H a = none → ts a cls d { nx := fun σ' H' => D.nx (σ'.set i none) H', rt := D.rt, bk := fun σ' H' => D.bk (σ'.set i none) H', ct := fun σ' H' => D.ct (σ'.set i none) H' } (σ.set i (some (.ref a))) H) ∧
    (b = false → Wout cls d σ H)
section
variable {X : Cx} {x1 x2 x3 n : Str} {c1 c2 c3 : Value} {i : Nat} {body suite : List Stmt} {b₀ : Stmt} {p1 p2 p3 tp pos pos' : Pos} {kk : Nat} {tb : WX → TS} {ts : Addr → Value → Option Addr → TS} {Wout : WX}
theorem ps_try_as3 (hs : X.stack = X.env :: X.outer) (hf : X.env.frame = some X.env.locals) (hN : X.N.Nodup) (hi : X.N[i]? = some n) (hln : X.env.kindOf n = some .local) (hc1 : Names X x1 c1) (hc2 : Names X x2 c2) (hc3 : Names X x3 c3) (tk : Takes X Wout)
    (hb : ∀ (W : WX) (pn : List (Addr × Obj)) (xe : Value → Shared → Prop),
            Takes (X.tr pn xe) W → PassesOwn (model X.prog X.w) X.A X.env xe → PSs (X.tr pn xe) body (tb W))
    (hsu : ∀ (a : Addr) (oe : Obj) (cls : Value) (d : Option Addr) (pn : List (Addr × Obj)),
            Zc cls d oe → (∃ vs, oe.data = .fields vs) → PSs (X.suite a ((a, oe) :: pn)) (b₀ :: suite) (ts a cls d)) :
    PS X (.Try body [.ExceptHandler (some (.Tuple [.Name x1 p1, .Name x2 p2, .Name x3 p3] kk tp)) (some n) (b₀ :: suite) pos'] [] [] pos) (fun D σ H => tb (wAsM X.K [c1, c2, c3] i ts Wout D) D σ H) := by
  refine ⟨fun pins s σ H D I h =>
          ?_⟩
  have ok := I.ok
  have frs_ : X.A.frames = some (X.env :: X.outer) := by rw [ok.frames, hs]
  have own_ : Loc X.env.scope n := .inl hln
  refine wpAny_Try_except (wpAny_mono ((hb (wAsM X.K [c1, c2, c3] i ts Wout D) (X.pn ++ pins) (fun e s₁ => wpAny (model X.prog X.w) X.A (noteFrame e X.env) (fun _ s₂ => wpAny (model X.prog X.w) X.A (setFlight e none) (fun _ s₃ =>
    wpAny (model X.prog X.w) X.A (handleBy e X.env [.ExceptHandler (some (.Tuple [.Name x1 p1, .Name x2 p2, .Name x3 p3] kk tp)) (some n) (b₀ :: suite) pos']) (SP X pins D) X.xe s₃) X.xe s₂) X.xe s₁) (fun u s' xx => ?_) PassesOwn.looking).run [] s σ H D (I.toTry _) h) (fun f s1 hsp => ?_) (fun e s1 he => he))
  · obtain ⟨a, B, sI, pins', σ', H', cls, d, rfl, J', nb, up, sky, na, os, ag, b, hb1, hyes, hno⟩ := xx
    have J : Inv X pins σ'
            H' sI := J'.ofTry ok
    rw [hs] at sky
    show wpAny (model X.prog X.w) X.A
            (noteFrame (.ref a) X.env) _ _ _
    refine Sky.land Zc.steady frs_ hf sky fun h3 fl3 up3 => ?_
    have J3 : Inv X pins σ' H' { s' with heap :=
            h3 } := J.landed nb fl3.1 (up.trans up3) os ag
    obtain ⟨oe3, vs3, he3,
            hz3, hd3⟩ := fl3.there
    have off : ∀ {h : Heap} {o : Obj} {vs : Array Value}, h.FunFrames B (X.env :: X.outer) → h.get? a = some o → o.data = .fields vs → a ∉ frs (X.env :: X.outer) := fun ff e dd hm => by
      obtain ⟨_, o', e',
              hnf⟩ := ff.mem hm
      rw [e] at e'
      cases e'
      exact hnf _ dd
    have nfr := off fl3.2.2.1 he3 hd3
    have nL : a ≠ X.env.locals := fun z =>
            nfr (List.mem_filterMap.mpr ⟨X.env, List.mem_cons_self, by rw [hf, z]⟩)
    have nF : a ∉ X.fs
            := fun hm => by
      obtain ⟨e, he,
              q⟩ := List.mem_filterMap.mp hm
      exact nfr (List.mem_filterMap.mpr ⟨e,
              List.mem_cons_of_mem _ he, q⟩)
    have S3 := J3.suite
            he3 hd3 na nL nF
    refine wpAny_handleBy_cons
            (codeAny_handlers_test ?_) (by intro q; cases q)
    have LT : PySem.W.Looks (model X.prog X.w) h3 (typeOf (.ref a)) cls := fun A Q E s k q =>
            wpAny_typeOf_ref (k _ _ he3) (by rw [hz3.1]; exact q)
    have one : ∀ {x : Str} {c : Value} {np : Pos} {Q : Value → Shared → Prop} {E : Value → Shared → Prop}, Names X x c → Q c { s' with heap := h3 } → wpAny (model X.prog X.w) (X.A.mark (some (.ref a))) (eval (.Name x np) X.env) Q E { s' with heap := h3 } := fun {x c np Q E} hc q => by
      obtain ⟨hg, hdbg,
              hm | ⟨hm, hv, hnn⟩⟩ := hc
      · exact ld_glob (X := X.suite a ((a,
              oe3) :: (X.pn ++ pins))) S3 hg hm q hdbg
      · exact ld_blt (X := X.suite a ((a,
              oe3) :: (X.pn ++ pins))) S3 hg hm hv q hnn hdbg
    refine wpAny_Tuple (wpAny_items_cons (one hc1 (wpAny_items_cons (one hc2 (wpAny_items_cons (one hc3 (wpAny_items_nil ⟨by size_fits, ?_⟩)))))))
    -- the tuple is new, all else stays
    have kp : ∀ q o, h3.get? q = some o → (h3.push { cls := .type "tuple", data := .seq [c1, c2, c3].toArray }).get? q = some o := fun _ _ z => Heap.get?_push_of_some _ z
    have flP := flying_keeps fl3 kp
    have JP : Inv X pins σ' H' { s' with heap := h3.push { cls := .type "tuple", data := .seq [c1, c2, c3].toArray } } := J3.kept (t' := s'.toks) kp
    have upP := (up.trans up3).trans (Heap.UpToSlots.of_keeps kp)
    refine (PySem.W.exm_tup3 (M := model X.prog X.w) JP.kIn (LT.keeps kp) (Heap.get?_push_size h3 rfl) hb1).here ?_
    cases b with
    | true =>
      refine codeAny_handlers_suite_as ?_
      refine HandSPX.lands_againZ flP fun h4 fl4 up4 => ?_
      have J4 : Inv X pins σ' H' { s' with heap := h4 } := J.landed nb fl4.1 (upP.trans up4) os ag
      obtain ⟨oe4, vs4, he4,
              hz4, hd4⟩ := fl4.there
      have S4 := J4.suite
              he4 hd4 na nL nF
      refine store_ok (X := X.suite a ((a, oe4) :: (X.pn ++ pins))) (v := .ref a) S4 hN hi own_ rfl (fun s5 S5 => ?_) (.inr hln)
      refine wpAny_mono ((hsu a oe4 cls d (X.pn ++ pins) hz4 ⟨_,
              hd4⟩).run [] s5 _ H' _ S5 (hyes rfl a na)) (fun f s6 hsp => ?_) (fun _ _ z => False.elim z)
      have last : ∀ {σ6 : L2.St} {H6 : Hp} {Q : Shared → Prop}, Inv (X.suite a ((a, oe4) :: (X.pn ++ pins))) [] σ6 H6 s6 → (∀ s7, Inv X pins (σ6.set i none) H6 s7 → Q s7) →
          wpAny (model X.prog X.w) X.A (do bindName X.env n .none; unbindBehindTheSuite X.env n pos') (fun _ s7 => Q s7) X.xe s6 := fun S6 hq => gone_ok (S6.unsuite ok) hN hi hln hq
      cases f with
      | ret u =>
        obtain ⟨v6, σ6, H6,
                S6, r6, q6⟩ := hsp
        exact last S6 fun s7 J7 => ⟨_, _, _, J7, r6, q6⟩
      | next =>
        obtain ⟨σ6, H6,
                S6, q6⟩ := hsp
        exact last S6 fun s7 J7 => ⟨_, _, J7, q6⟩
      | brk =>
        obtain ⟨σ6, H6,
                S6, q6⟩ := hsp
        exact last S6 fun s7 J7 => ⟨_, _, J7, q6⟩
      | cont =>
        obtain ⟨σ6, H6,
                S6, q6⟩ := hsp
        exact last S6 fun s7 J7 => ⟨_, _, J7, q6⟩
    | false =>
      show wpAny _ X.A (handleBy
              (.ref a) X.env []) _ _ _
      refine wpAny_handleBy_nil ?_
      obtain ⟨k1, k2, k3, oe, vs, T, oT, ts', he, hz, hd, h1, hr⟩ := id flP
      unfold PySem.passOn
      refine wpAny_bind
              (wpAny_field he hd h1 ?_)
      rw [if_neg (show ¬ ((Value.ref T ==
              Value.none) = true) from by simp)]
      have fin : wpAny (model X.prog X.w) X.A (setFlight (.ref a) X.env.frame) (fun _ s4 => wpAny (model X.prog X.w) X.A (throw (.ref a) : Sem Flow) (SP X pins D) X.xe s4) X.xe { s' with heap := h3.push { cls := .type "tuple", data := .seq [c1, c2, c3].toArray } } := by
        rw [hf]
        refine HandSPX.setFlight_upZ flP fun h4 hh4 up4 => wpAny_throw (tk _ _ ?_)
        exact ⟨a, B, sI, pins, σ', H', cls, d, rfl, J, nb, upP.trans up4, .inr (.inr (by rw [hs]; exact hh4)), na, os, ag, hno rfl⟩
      first
        | exact wpAny_bind
                (wpAny_pure (wpAny_bind fin))
        | exact wpAny_bind fin
  · cases f with
    | ret u =>
      obtain ⟨v, σ', H',
              J', r, q⟩ := hsp
      exact ⟨v, σ', H',
              J'.ofTry ok, r, q⟩
    | next =>
      obtain ⟨σ', H', J', q⟩ := hsp
      exact wpAny_execs_nil ⟨σ',
              H', J'.ofTry ok, q⟩
    | brk =>
      obtain ⟨σ', H', J', q⟩ := hsp
      exact ⟨σ', H',
              J'.ofTry ok, q⟩
    | cont =>
      obtain ⟨σ', H', J', q⟩ := hsp
      exact ⟨σ', H',
              J'.ofTry ok, q⟩
end
/-! ### defs called within an except clause -/
section
open L2H
variable {P : Program} {w : World} {K : PySem.W.Frag} {mg : Str → Option Value} {base : Heap} {k : Nat} {f : Addr} {fd : FuncData} {ps : List Str} {sp : Sp}
/-- as FnG, where an exception is handled: p is its object -/
structure FnHG (P : Program) (w : World) (K : PySem.W.Frag) (mg : Str → Option Value) (base : Heap) (k : Nat) (f : Addr) (fd : FuncData) (ps : List Str) (sp : Addr × Obj → Sp) : Prop where
  len : ∀ p vs H Q E, sp p vs H Q E → vs.length = ps.length
  run : ∀ (A : Around) (outer : List PySem.Env) (s : Shared) (H : Hp) (args : Args) (us : List Value) (vs : List V) (Q : VK) (E : XK) (p : Addr × Obj), RoomH k A → A.guards = some [] → Hot1 A p → PinOk outer H s p → Env0 P w K mg base A outer s H → BindsTo s fd args (ps.zip us) → Vals vs us → sp p vs H Q E →
    codeAny (model P w) A (.call (.ref f) args) (CR (L2.CX P w) outer P w H s Q E) s
/-- a def of the text, by its body's reading there -/
theorem fnHG {x qual : Str} {st : Stmt} {N : List Str} {sp : Addr × Obj → Sp} (F : Fun K x qual st f fd) (S : FnScope N ps (defScope st)) (len : ∀ p vs H Q E, sp p vs H Q E → vs.length = ps.length)
    (body : ∀ (cdv : Value) (A : Around) (outer : List PySem.Env) (s : Shared) (H : Hp) (vs : List V) (Q : VK) (E : XK) (p : Addr × Obj), fd.code = cdv → Hot1 A p → RoomH k (A.deeper (envOfC qual (defScope st) s.heap.objs.size f cdv)) → A.guards = some [] → sp p vs H Q E →
      ∃ t, PSs (cxH (L2.CX P w) P w K mg base N qual (defScope st) f cdv A outer s H E p) (defBody st) t ∧ t { nx := fun _ H' => Q .non H', rt := Q } (L2.start N vs) H) : FnHG P w K mg base (k + 1) f fd ps sp := by
  obtain ⟨oc, od, kV, doc, pm, an, cdv, ct, osl, rfl, look, code⟩ := F.ex
  refine ⟨len, fun A outer s H args us vs Q E p room gu hot pin e0 bind rel hsp => ?_⟩
  have old : ∀ b o, base.get? b = some o → s.heap.get? b = some o := fun b o e => (e0.bs b o e).1
  have inK : K.In s.heap := e0.mod.kin.keeps old
  have noLim : s.heap.NoLimit := e0.mod.nolimit.keeps old
  have names : ∀ q ∈ ps.zip us, (defScope st).names.lookup q.1 = some .local ∨ ((defScope st).names.lookup q.1 = some .cell ∧ ((cellsFrom (s.heap.objs.size + 1) (defScope st).names []).lookup q.1).isSome = true) := by
    rintro ⟨n, u⟩ hq
    cases S.par n (List.of_mem_zip hq).1 with
    | inl h => exact .inl h
    | inr h => exact .inr ⟨h, PySem.W.cellsFrom_some _ _ _ (.inl h)⟩
  apply codeAny_call_function room.depth (inK _ _ look) rfl S.co S.gen rfl (PySem.W.codeRec_of inK code)
  apply bind
  apply wpAny_newFunctionEnv_cells S.kind names
  intro env same s1 call
  subst same
  refine ⟨noLim.keeps call.toInCall.keep, codeAny_func ?_⟩
  obtain ⟨t, read, asks⟩ := body cdv A outer s H vs Q E p rfl hot (room.deeper _) gu hsp
  have I := inv_startH (CX := L2.CX P w) (E := E) (cd := cdv) S pin e0 (len _ _ _ _ _ hsp) rel call
  refine wpAny_mono (read.run [] s1 (L2.start N vs) H _ I asks) ?_ (fun e s' h => h)
  intro fl s' h
  cases fl with
  | ret u => obtain ⟨v, σ', H', J, r, q⟩ := h; exact ⟨v, H', J.os, J.bare, J.base, J.hok, r, q⟩
  | next => obtain ⟨σ', H', J, q⟩ := h; exact ⟨V.non, H', J.os, J.bare, J.base, J.hok, rfl, q⟩
  | brk => obtain ⟨_, _, _, q⟩ := h; exact q.elim
  | cont => obtain ⟨_, _, _, q⟩ := h; exact q.elim
end
/-! ### the exception at hand, told by a context's pins -/
section
variable {X : Cx} {a D : Addr} {oe : Obj} {d : Option Addr}
/-- isinstance(e, c), with fields or without -/
def rIsP (K : PySem.W.Frag) (D a : Addr) (d : Option Addr) : List V → Hp → VK → Prop := fun xs H Q => ∃ (c : V) (cv : Value) (b : Bool), xs = [.ref a, c] ∧ (∀ u, RelV c u → u = cv) ∧ PySem.W.kitOne K (.ref D) cv = some b ∧
  (d = none ∨ ∃ dd fs, d = some dd ∧ H dd = some (.xd fs)) ∧ Q (.bl b) H
theorem call_isP (hp : (a, oe) ∈ X.pn) (C : ExcC X.K D) (hz : Zc (.ref D) d oe) (hf : ∃ vs, oe.data = .fields vs) : CallR X (.builtin "isinstance") (rIsP X.K D a d) := by
  intro pins s σ
          H xs us Q I r h
  obtain ⟨c, cv, b, rfl, hcv, e, hd, q⟩ := h
  cases r with
  | cons rx rr =>
    cases rr with
    | cons rt rr =>
      cases rr
      cases rx
      have ec := hcv _ rt
      subst ec
      obtain ⟨hget, _⟩ := I.pin (a, oe) (List.mem_append_left _ hp)
      obtain ⟨vs, hv⟩ := hf
      have fin : ∀ od, PySem.W.InstAt s.heap a oe D od → wpAny (model X.prog X.w) X.A (call (.builtin "isinstance") [.ref a, _]) (EP X pins σ Q) X.xe s := fun od J =>
        PySem.W.kia_one (PySem.W.kitx_exc (od := od) (by obtain ⟨cd, hc, _⟩ := PySem.W.any_some C.hd; rw [hc]; rfl) C.hg C.hk C.hs C.ha C.hn C.ht C.hm) I.kIn J e (fun z => nomatch z) fun tk => ⟨.bl b, H, I.kept (t' := tk) fun _ _ z => z, rfl, q⟩
      rcases hd with rfl | ⟨dd, fs, rfl, hH⟩
      · refine fin none ?_
        obtain ⟨oc, od,
                oda, osl⟩ := oe
        obtain ⟨h1, h2⟩ := hz
        dsimp only at h1 h2 hv
        subst h1 h2 hv
        exact ⟨hget, rfl,
                rfl, trivial⟩
      · have hx : ObjOk X.prog X.w H s.heap dd (.xd fs) := I.hok dd _ hH
        obtain ⟨mA, hns, hr⟩ := hx
        obtain ⟨od, ho,
                hl⟩ := lookIn_ns hns
        exact fin (some od) ⟨hget, hz.1, by unfold PySem.W.notCls; rw [hv] <;> rfl, by rw [hz.2]; exact ho⟩
/-- e.n, a field of the exception -/
def tXfP (a : Addr) (d : Option Addr) (n : Str) (te : TE) : TE := fun σ H Q => te σ H fun x H1 => x = .ref a ∧ ∃ (dd : Addr) (fs : List (Str × V)) (v : V), d = some dd ∧ H1 dd = some (.xd fs) ∧ fs.lookup n = some v ∧ Q v H1
theorem pe_xfP {e : Expr} {te : TE} {pos : Pos} {n : Str} (hp : (a, oe) ∈ X.pn) (T : XfC X.K D) (hno : PySem.W.findIn X.K (.ref D) n = some none) (hz : Zc (.ref D) d oe) (hf : ∃ vs, oe.data = .fields vs) (he : PE X e te)
    (hb : attributeBase e n X.env (eval e X.env) = eval e X.env := by rfl) : PE X (.Attribute e n pos) (tXfP a d n te) := by
  refine ⟨fun pins s σ H Q I h =>
          ?_⟩
  refine attr_of hb (thn (he.run pins s σ H _ I h) fun u s1 hh =>
          ?_)
  obtain ⟨x, H1, I1, rx, ex, dd, fs, v, ed, ea, l, q⟩ := hh
  subst ex
  obtain rfl : u =
          Value.ref a := rx
  subst ed
  obtain ⟨ha, _⟩ := I1.pin (a, oe) (List.mem_append_left _ hp)
  obtain ⟨vs, hd⟩ := hf
  have hx : ObjOk X.prog X.w H1
          s1.heap dd (.xd fs) := I1.hok dd _ ea
  obtain ⟨mA, hns, hr⟩ := hx
  obtain ⟨od, ho,
          hl⟩ := lookIn_ns hns
  obtain ⟨u, hu, ru⟩ := RelO.some_of (v :=
          v) (o := mA n) (by rw [← l]; exact hr n)
  have J : PySem.W.InstAt s1.heap a oe D (some od) := ⟨ha, hz.1, by unfold PySem.W.notCls; rw [hd] <;> rfl, by rw [hz.2]; exact ho⟩
  exact HandSPX.exc_get I1.kIn J T.ga T.gg T.exC (PySem.W.findObj_own
          T.hdC hno rfl (by rw [hl, hu])) (handed_of ru) ⟨v, H1, I1.tok _, ru, q⟩
end
end Mu
end
section
set_option Elab.async false
set_option linter.all false
set_option maxRecDepth 100000
set_option maxHeartbeats 4000010
/-! Mu, part 1: values as trees, a store of mutable cells, and what of a heap they speak of. -/
namespace Mu
open PySem
open PySem.Spec
open PyProof.Rows
open L2

/-- a dict's key -/
inductive Ky where
  | i (n : Int) | s (cs : List Nat)
  deriving DecidableEq
/-- a value without a heap: gl: a global's object by its number; ins: an instance, its fields by number; scr: the script; cell: a mutable object of the store -/
inductive T where
  | non | bl (b : Bool) | int (i : Int) | str (cs : List Nat) | ty (n : String) | gl (x : Nat)
  | tup (xs : List T) | lst (xs : List T) | dic (ks : List Ky) (ts : List T) | ins (c : Nat) (fs : List Nat) (ts : List T)
  | scr (ns : List Int) | cell (n : Nat) | err (c : Nat) (fs : List Nat) (ts : List T)
inductive O where
  | lst (xs : List T) | dic (ks : List Ky) (ts : List T) | ins (c : Nat) (fs : List Nat) (ts : List T)
  | tab (q : Nat)
abbrev Sto := List (Option O)
/-- no table of code objects -/
def O.nt : O → Bool
  | .tab _ => false
  | .lst _ => true
  | .dic _ _ => true
  | .ins _ _ _ => true
inductive R (a : Type) where
  | ok (x : a) (st : Sto) | exc (c : Nat) (ts : List T) (st : Sto) | bad
def R.bind {a b : Type} : R a → (a → Sto → R b) → R b
  | .ok x st, k => k x st
  | .exc c ts st, _ => .exc c ts st
  | .bad, _ => .bad

/-- what is fixed: the written part, the globals' addresses, the fields' names, an error class's fields -/
structure Wd where
  K : PySem.W.Frag
  ad : Nat → Addr
  nm : Nat → Str
  xf : Nat → List Nat
  cs : Nat → Option (Addr × Addr) := fun _ => none
  hot : Bool := false
  er : Option (Addr × Option Addr × Nat) := none
/-- the cells' addresses, the part of the heap where pure values stand, the store -/
structure Z where
  as : List Addr
  hm : Hp
  st : Sto

def kyK : Ky → Key
  | .i n => .inl n
  | .s cs => .inr ⟨cs.toArray⟩

mutual
def Rep (w : Wd) (as : List Addr) (H : Hp) : T → V → Prop
  | .non, v => v = .non
  | .bl b, v => v = .bl b
  | .int i, v => v = .int i
  | .str cs, v => v = .str ⟨cs.toArray⟩
  | .ty n, v => v = .ty n
  | .gl x, v => v = .ref (w.ad x)
  | .tup ts, v => ∃ a vs, v = .ref a ∧ SqT w.K H a vs ∧ Reps w as H ts vs
  | .lst ts, v => ∃ a vs, v = .ref a ∧ H a = some (.lst vs) ∧ Reps w as H ts vs
  | .dic ks ts, v => ∃ a kvs, v = .ref a ∧ H a = some (.dK kvs) ∧ kvs.map (·.1) = ks.map kyK ∧ Reps w as H ts (kvs.map (·.2))
  | .ins c fs ts, v => ∃ a dx kvs, v = .ref a ∧ H a = some (.ins (w.ad c) dx kvs) ∧ kvs.map (·.1) = fs.map w.nm ∧ Reps w as H ts (kvs.map (·.2))
  | .err c fs ts, v => ∃ a d kvs, w.er = some (a, d, c) ∧ v = .ref a ∧ ((d = none ∧ kvs = []) ∨ ∃ dd, d = some dd ∧ H dd = some (.xd kvs)) ∧ kvs.map (·.1) = fs.map w.nm ∧ Reps w as H ts (kvs.map (·.2))
  | .scr ns, v => ∃ a, v = .ref a ∧ SqL w.K H a (ns.map V.int)
  | .cell n, v => ∃ a, as[n]? = some a ∧ v = .ref a
def Reps (w : Wd) (as : List Addr) (H : Hp) : List T → List V → Prop
  | [], vs => vs = []
  | t :: ts, vs => ∃ v r, vs = v :: r ∧ Rep w as H t v ∧ Reps w as H ts r
end
def RepO (w : Wd) (as : List Addr) (H : Hp) : O → HO → Prop
  | .lst ts, ho => ∃ vs, ho = .lst vs ∧ Reps w as H ts vs
  | .dic ks ts, ho => ∃ kvs, ho = .dK kvs ∧ kvs.map (·.1) = ks.map kyK ∧ Reps w as H ts (kvs.map (·.2))
  | .ins c fs ts, ho => ∃ dx kvs, ho = .ins (w.ad c) dx kvs ∧ kvs.map (·.1) = fs.map w.nm ∧ Reps w as H ts (kvs.map (·.2))
  | .tab q, ho => ∃ ps : Array Value, ho = .tbl ps ∧ TriplesOk ps.toList ∧ ∀ (pos : Pos) (cv : Value), codeAmong pos ps.toList = some cv → ∃ c, cv = .ref c ∧ H c = some (LamX.CodeO c (w.nm q))

/-! ### growing -/
theorem sqT_mono {K : PySem.W.Frag} {H H' : Hp} (h : ∀ a o, H a = some o → H' a = some o) {a : Addr} {xs : List V} (q : SqT K H a xs) : SqT K H' a xs := by
  rcases q with (q | ⟨o, q⟩) | q
  · exact .inl (.inl (h _ _ q))
  · exact .inl (.inr ⟨o, h _ _ q⟩)
  · exact .inr q
theorem sqL_mono {K : PySem.W.Frag} {H H' : Hp} (h : ∀ a o, H a = some o → H' a = some o) {a : Addr} {xs : List V} (q : SqL K H a xs) : SqL K H' a xs := by
  rcases q with (q | ⟨o, q⟩) | q
  · exact .inl (.inl (h _ _ q))
  · exact .inl (.inr ⟨o, h _ _ q⟩)
  · exact .inr q
theorem get_app {as l : List Addr} {n : Nat} {a : Addr} (h : as[n]? = some a) : (as ++ l)[n]? = some a := by
  have hl : n < as.length := (List.getElem?_eq_some_iff.mp h).1
  rw [List.getElem?_append_left hl]
  exact h
section
variable {w : Wd} {as as' : List Addr} {H H' : Hp}
mutual
theorem Rep.mono (h1 : ∀ (n : Nat) (a : Addr), as[n]? = some a → as'[n]? = some a) (h2 : ∀ a o, H a = some o → H' a = some o) : ∀ (t : T) (v : V), Rep w as H t v → Rep w as' H' t v
  | .non, _, h => by unfold Rep at h ⊢; exact h
  | .bl _, _, h => by unfold Rep at h ⊢; exact h
  | .int _, _, h => by unfold Rep at h ⊢; exact h
  | .str _, _, h => by unfold Rep at h ⊢; exact h
  | .ty _, _, h => by unfold Rep at h ⊢; exact h
  | .gl _, _, h => by unfold Rep at h ⊢; exact h
  | .tup ts, _, h => by
    unfold Rep at h ⊢
    obtain ⟨a, vs, e, q, r⟩ := h
    exact ⟨a, vs, e, sqT_mono h2 q, Reps.mono h1 h2 ts vs r⟩
  | .lst ts, _, h => by
    unfold Rep at h ⊢
    obtain ⟨a, vs, e, q, r⟩ := h
    exact ⟨a, vs, e, h2 _ _ q, Reps.mono h1 h2 ts vs r⟩
  | .dic ks ts, _, h => by
    unfold Rep at h ⊢
    obtain ⟨a, kvs, e, q, k, r⟩ := h
    exact ⟨a, kvs, e, h2 _ _ q, k, Reps.mono h1 h2 ts _ r⟩
  | .ins c fs ts, _, h => by
    unfold Rep at h ⊢
    obtain ⟨a, dx, kvs, e, q, k, r⟩ := h
    exact ⟨a, dx, kvs, e, h2 _ _ q, k, Reps.mono h1 h2 ts _ r⟩
  | .err c fs ts, _, h => by
    unfold Rep at h ⊢
    obtain ⟨a, d, kvs, e0, e, q, k, r⟩ := h
    refine ⟨a, d, kvs, e0, e, ?_, k, Reps.mono h1 h2 ts _ r⟩
    rcases q with q | ⟨dd, q1, q2⟩
    · exact .inl q
    · exact .inr ⟨dd, q1, h2 _ _ q2⟩
  | .scr _, _, h => by
    unfold Rep at h ⊢
    obtain ⟨a, e, q⟩ := h
    exact ⟨a, e, sqL_mono h2 q⟩
  | .cell n, _, h => by
    unfold Rep at h ⊢
    obtain ⟨a, e, q⟩ := h
    exact ⟨a, h1 _ _ e, q⟩
theorem Reps.mono (h1 : ∀ (n : Nat) (a : Addr), as[n]? = some a → as'[n]? = some a) (h2 : ∀ a o, H a = some o → H' a = some o) : ∀ (ts : List T) (vs : List V), Reps w as H ts vs → Reps w as' H' ts vs
  | [], _, h => by unfold Reps at h ⊢; exact h
  | t :: ts, _, h => by
    unfold Reps at h ⊢
    obtain ⟨v, r, e, q1, q2⟩ := h
    exact ⟨v, r, e, Rep.mono h1 h2 t v q1, Reps.mono h1 h2 ts r q2⟩
end
theorem RepO.mono (h1 : ∀ (n : Nat) (a : Addr), as[n]? = some a → as'[n]? = some a) (h2 : ∀ a o, H a = some o → H' a = some o) {o : O} {ho : HO} (h : RepO w as H o ho) : RepO w as' H' o ho := by
  cases o with
  | lst ts => obtain ⟨vs, e, r⟩ := h; exact ⟨vs, e, Reps.mono h1 h2 ts vs r⟩
  | dic ks ts => obtain ⟨kvs, e, k, r⟩ := h; exact ⟨kvs, e, k, Reps.mono h1 h2 ts _ r⟩
  | ins c fs ts => obtain ⟨dx, kvs, e, k, r⟩ := h; exact ⟨dx, kvs, e, k, Reps.mono h1 h2 ts _ r⟩
  | tab q => obtain ⟨ps, e, k, r⟩ := h; exact ⟨ps, e, k, fun pos cv hc => let ⟨c, q1, q2⟩ := r pos cv hc; ⟨c, q1, h2 _ _ q2⟩⟩
theorem Reps.length : ∀ {ts : List T} {vs : List V}, Reps w as H ts vs → ts.length = vs.length
  | [], _, h => by unfold Reps at h; subst h; rfl
  | t :: ts, _, h => by
    unfold Reps at h
    obtain ⟨v, r, e, _, q⟩ := h
    subst e
    rw [List.length_cons, List.length_cons, Reps.length q]
theorem Reps.nil : Reps w as H [] [] := by unfold Reps; rfl
theorem Reps.cons {t : T} {v : V} {ts : List T} {vs : List V} (h : Rep w as H t v) (r : Reps w as H ts vs) : Reps w as H (t :: ts) (v :: vs) := by
  unfold Reps
  exact ⟨v, vs, rfl, h, r⟩
theorem Reps.cons_inv {t : T} {ts : List T} {vs : List V} (h : Reps w as H (t :: ts) vs) : ∃ v r, vs = v :: r ∧ Rep w as H t v ∧ Reps w as H ts r := by
  unfold Reps at h
  exact h
theorem Reps.nil_inv {vs : List V} (h : Reps w as H [] vs) : vs = [] := by
  unfold Reps at h
  exact h
theorem Reps.append : ∀ {ts us : List T} {vs ws : List V}, Reps w as H ts vs → Reps w as H us ws → Reps w as H (ts ++ us) (vs ++ ws)
  | [], _, _, _, h, k => by rw [h.nil_inv]; exact k
  | t :: ts, us, _, ws, h, k => by
    obtain ⟨v, r, e, q1, q2⟩ := h.cons_inv
    subst e
    exact .cons q1 (Reps.append q2 k)
theorem Reps.get : ∀ {ts : List T} {vs : List V} {i : Nat} {t : T}, Reps w as H ts vs → ts[i]? = some t → ∃ v, vs[i]? = some v ∧ Rep w as H t v
  | [], _, _, _, _, e => by simp at e
  | t :: ts, _, 0, _, h, e => by
    obtain ⟨v, r, e1, q1, q2⟩ := h.cons_inv
    subst e1
    simp at e
    subst e
    exact ⟨v, rfl, q1⟩
  | t :: ts, _, i + 1, _, h, e => by
    obtain ⟨v, r, e1, q1, q2⟩ := h.cons_inv
    subst e1
    obtain ⟨u, h1, h2⟩ := Reps.get (i := i) q2 (by simpa using e)
    exact ⟨u,
            by simpa using h1, h2⟩
theorem Reps.getV : ∀ {ts : List T} {vs : List V} {i : Nat} {v : V}, Reps w as H ts vs → vs[i]? = some v → ∃ t, ts[i]? = some t ∧ Rep w as H t v := fun {ts vs i v} h e => by
  have hl := h.length
  have hi : i < vs.length := (List.getElem?_eq_some_iff.mp e).1
  have hi' : i < ts.length := by omega
  obtain ⟨u, h1, h2⟩ := h.get (i := i) (t := ts[i]) (by simp [hi'])
  rw [e] at h1
  cases h1
  exact ⟨ts[i], by simp [hi'], h2⟩
theorem Reps.set {t : T} {v : V} (q : Rep w as H t v) : ∀ {ts : List T} {vs : List V} (i : Nat), Reps w as H ts vs → Reps w as H (ts.set i t) (vs.set i v)
  | [], _, _, h => by rw [h.nil_inv]; exact .nil
  | a :: ts, _, 0, h => by
    obtain ⟨v', r, e, q1, q2⟩ := h.cons_inv
    subst e
    exact .cons q q2
  | a :: ts, _, i + 1, h => by
    obtain ⟨v', r, e, q1, q2⟩ := h.cons_inv
    subst e
    exact .cons q1 (Reps.set q i q2)
theorem Reps.take : ∀ {ts : List T} {vs : List V} (n : Nat), Reps w as H ts vs → Reps w as H (ts.take n) (vs.take n)
  | [], _, _, h => by rw [h.nil_inv, List.take_nil, List.take_nil]; exact .nil
  | a :: ts, _, 0, h => by rw [List.take_zero, List.take_zero]; exact .nil
  | a :: ts, _, n + 1, h => by
    obtain ⟨v', r, e, q1, q2⟩ := h.cons_inv
    subst e
    exact .cons q1 (Reps.take n q2)
theorem Reps.drop : ∀ {ts : List T} {vs : List V} (n : Nat), Reps w as H ts vs → Reps w as H (ts.drop n) (vs.drop n)
  | [], _, _, h => by rw [h.nil_inv, List.drop_nil, List.drop_nil]; exact .nil
  | a :: ts, _, 0, h => h
  | a :: ts, _, n + 1, h => by
    obtain ⟨v', r, e, q1, q2⟩ := h.cons_inv
    subst e
    exact Reps.drop n q2
theorem Reps.reverse : ∀ {ts : List T} {vs : List V}, Reps w as H ts vs → Reps w as H ts.reverse vs.reverse
  | [], _, h => by rw [h.nil_inv]; exact .nil
  | a :: ts, _, h => by
    obtain ⟨v', r, e, q1, q2⟩ := h.cons_inv
    subst e
    rw [List.reverse_cons,
            List.reverse_cons]
    exact (Reps.reverse q2).append (.cons q1 .nil)
theorem Reps.dropLast {ts : List T} {vs : List V} (h : Reps w as H ts vs) : Reps w as H ts.dropLast vs.dropLast := by
  rw [List.dropLast_eq_take, List.dropLast_eq_take, h.length]
  exact h.take _
theorem Reps.rep : ∀ {ts : List T} {vs : List V} (k : Nat), Reps w as H ts vs → Reps w as H (List.replicate k ts).flatten (List.replicate k vs).flatten
  | _, _, 0, _ => .nil
  | ts, vs, k + 1, h => by
    rw [List.replicate_succ, List.replicate_succ,
            List.flatten_cons, List.flatten_cons]
    exact h.append (Reps.rep k h)
theorem Reps.ints : ∀ {ns : List Int} {vs : List V}, Reps w as H (ns.map T.int) vs → vs = ns.map V.int
  | [], _, h => h.nil_inv
  | n :: ns, _, h => by
    obtain ⟨v', r, e, q1, q2⟩ := Reps.cons_inv h
    subst e
    unfold Rep at q1
    rw [q1, Reps.ints q2]
    rfl
theorem Reps.of_ints : ∀ (ns : List Int), Reps w as H (ns.map T.int) (ns.map V.int)
  | [] => .nil
  | n :: ns => .cons (by unfold Rep; rfl) (Reps.of_ints ns)
end

/-! ### the state -/
structure StRel (w : Wd) (z : Z) (H : Hp) : Prop where
  len : z.as.length = z.st.length
  nd : ∀ (i j : Nat) (a : Addr), z.as[i]? = some a → z.as[j]? = some a → i = j
  sub : ∀ a o, z.hm a = some o → H a = some o
  trk : ∀ (n : Nat) (a : Addr), z.as[n]? = some a → ∃ o, H a = some o
  live : ∀ (n : Nat) (o : O), z.st[n]? = some (some o) → ∃ a ho, z.as[n]? = some a ∧ z.hm a = none ∧ H a = some ho ∧ RepO w z.as z.hm o ho
  tabs : ∀ (n q : Nat), z.st[n]? = some (some (.tab q)) → ∃ c P, w.cs q = some (c, P) ∧ z.as[n]? = some P
/-- what may have happened between two states -/
structure Go (z : Z) (H : Hp) (z' : Z) (H' : Hp) : Prop where
  pre : ∃ l, z'.as = z.as ++ l
  hm : ∀ a o, z.hm a = some o → z'.hm a = some o
  new : ∀ (n : Nat) (a : Addr), z.as.length ≤ n → z'.as[n]? = some a → H a = none
  dead : ∀ (n : Nat), z.st[n]? = some none → z'.st[n]? = some none
  there : ∀ a o, H a = some o → ∃ o', H' a = some o'
  kept : ∀ a o, H a = some o → (∀ (n : Nat), z.as[n]? = some a → z.st[n]? = some none) → H' a = some o
  old : ∀ a o, z'.hm a = some o → z.hm a = none → H a = none ∨ ∃ n : Nat, z.as[n]? = some a
theorem no_two {α : Type} {o : Option α} {x : α} {p : Prop} (h : o = some x) (n : o = none) : p := by rw [h] at n; cases n
section
variable {w : Wd} {z z' z1 z2 : Z} {H H' H1 H2 : Hp}
theorem no_at {as : List Addr} {n : Nat} {a : Addr} (h : as.length ≤ n) (e : as[n]? = some a) : False := by
  rw [List.getElem?_eq_none h] at e
  cases e
theorem Go.refl : Go z H z H := ⟨⟨[], by simp⟩, fun _ _ h => h, fun n a h e => (no_at h e).elim, fun _ h => h, fun _ o h => ⟨o, h⟩, fun _ _ h _ => h, fun _ _ h n => no_two h n⟩
theorem get_appO {st l : Sto} {n : Nat} {a : Option O} (h : st[n]? = some a) : (st ++ l)[n]? = some a := by
  rw [List.getElem?_append_left (List.getElem?_eq_some_iff.mp h).1]
  exact h
theorem Go.at (g : Go z H z' H') {n : Nat} {a : Addr} (h : z.as[n]? = some a) : z'.as[n]? = some a := by
  obtain ⟨l, e⟩ := g.pre
  rw [e]
  exact get_app h
theorem Go.trans (a : Go z H z1 H1) (b : Go z1 H1 z2 H2) : Go z H z2 H2 where
  pre := by
    obtain ⟨l, e⟩ := a.pre
    obtain ⟨l', e'⟩ := b.pre
    exact ⟨l ++ l', by rw [e', e, List.append_assoc]⟩
  hm := fun c o h => b.hm c o (a.hm c o h)
  new := fun n c h e => by
    by_cases hn : n < z1.as.length
    · obtain ⟨l, e1⟩ := b.pre
      rw [e1, List.getElem?_append_left hn] at e
      exact a.new n c h e
    · have h1 := b.new n c (by omega) e
      cases q : H c with
      | none => rfl
      | some o =>
        obtain ⟨o', q'⟩ := a.there c o q
        rw [q'] at h1
        cases h1
  dead := fun n h => b.dead n (a.dead n h)
  there := fun c o h => by
    obtain ⟨o', h'⟩ := a.there c o h
    exact b.there c o' h'
  kept := fun c o h k => b.kept c o (a.kept c o h k) fun n e => by
    by_cases hn : n < z.as.length
    · obtain ⟨l, e1⟩ := a.pre
      rw [e1, List.getElem?_append_left hn] at e
      exact b.dead n (a.dead n (k n e)) |> fun _ => a.dead n (k n e)
    · have := a.new n c (by omega) e
      rw [h] at this
      cases this
  old := fun c o h n => by
    cases q : z1.hm c with
    | some o' => exact a.old c o' q n
    | none =>
      rcases b.old c o h q with h1 | ⟨m, h1⟩
      · cases q2 : H c with
        | none => exact .inl rfl
        | some o' =>
          obtain ⟨o2, h2⟩ := a.there c o' q2
          exact no_two h2 h1
      · by_cases hm : m < z.as.length
        · obtain ⟨l, e1⟩ := a.pre
          rw [e1, List.getElem?_append_left hm] at h1
          exact .inr ⟨m, h1⟩
        · exact .inl (a.new m c (by omega) h1)
theorem Go.rep (g : Go z H z' H') {t : T} {v : V} (h : Rep w z.as z.hm t v) : Rep w z'.as z'.hm t v := Rep.mono (fun _ _ q => g.at q) g.hm t v h
theorem Go.reps (g : Go z H z' H') {t : List T} {v : List V} (h : Reps w z.as z.hm t v) : Reps w z'.as z'.hm t v := Reps.mono (fun _ _ q => g.at q) g.hm t v h
theorem Go.size (g : Go z H z' H') : z.as.length ≤ z'.as.length := by
  obtain ⟨l, e⟩ := g.pre
  rw [e, List.length_append]
  omega
/-- the part's tracked things stand in the heap; they are no live cells -/
theorem StRel.notLive (s : StRel w z H) {a : Addr} {o : HO} (h : z.hm a = some o) : ∀ n : Nat, z.as[n]? = some a → z.st[n]? = some none := fun n e => by
  have hn : n < z.as.length := (List.getElem?_eq_some_iff.mp e).1
  have hn' : n < z.st.length := by rw [← s.len]; exact hn
  cases q : z.st[n] with
  | none => rw [List.getElem?_eq_getElem hn', q]
  | some ob =>
    obtain ⟨a', ho, e1, e2, _⟩ := s.live n ob (by rw [List.getElem?_eq_getElem hn', q])
    rw [e] at e1
    cases e1
    rw [e2] at h
    cases h
theorem StRel.none_hm (s : StRel w z H) {p : Addr} (hp : H p = none) : z.hm p = none := by
  cases q : z.hm p with
  | none => rfl
  | some o' =>
    have := s.sub p o' q
    rw [hp] at this
    cases this
/-- a new pure object -/
theorem StRel.laid (s : StRel w z H) {p : Addr} {o : HO} (hp : H p = none) : StRel w ⟨z.as, upd z.hm p o, z.st⟩ (upd H p o) ∧ Go z H ⟨z.as, upd z.hm p o, z.st⟩ (upd H p o) := by
  have hm : ∀ a o', z.hm a = some o' → a ≠ p := fun a o' h e => by
    have := s.sub a o' h
    rw [e, hp] at this
    cases this
  have mono : ∀ a o', z.hm a = some o' → upd z.hm p o a = some o' := fun a o' h => by rw [upd_ne (hm a o' h)]; exact h
  have keep : ∀ a o', H a = some o' → upd H p o a = some o' := fun a o' h => by rw [upd_ne (ne_of_none h hp)]; exact h
  refine ⟨⟨s.len, s.nd, fun a o' h => ?_, fun n a e => ?_, fun n ob e => ?_, s.tabs⟩, ⟨⟨[], by simp⟩, mono, fun n a h e => (no_at h e).elim, fun _ h => h, fun a o' h => ⟨o', keep a o' h⟩, fun a o' h _ => keep a o' h, fun a o' h n => ?_⟩⟩
  · have h : upd z.hm p o a = some o' := h
    by_cases e : a = p
    · subst e
      rw [upd_same] at h ⊢
      exact h
    · rw [upd_ne e] at h ⊢
      exact s.sub a o' h
  · obtain ⟨o', h⟩ := s.trk n a e
    exact ⟨o', keep a o' h⟩
  · obtain ⟨a, ho, e1, e2, e3, r⟩ := s.live n ob e
    refine ⟨a, ho, e1, ?_, keep a ho e3, r.mono (fun _ _ q => q) mono⟩
    show upd z.hm p o a = none
    rw [upd_ne (ne_of_none e3 hp)]
    exact e2
  · have h : upd z.hm p o a = some o' := h
    by_cases e : a = p
    · exact .inl (by rw [e]; exact hp)
    · rw [upd_ne e] at h
      exact no_two h n
theorem app_at {α : Type} {l : List α} {x y : α} {n : Nat} (h : (l ++ [x])[n]? = some y) : l[n]? = some y ∨ (n = l.length ∧ y = x) := by
  by_cases hn : n < l.length
  · rw [List.getElem?_append_left hn] at h
    exact .inl h
  · by_cases e : n = l.length
    · subst e
      rw [List.getElem?_append_right (Nat.le_refl _), Nat.sub_self] at h
      exact .inr ⟨rfl, (Option.some.inj h).symm⟩
    · rw [List.getElem?_eq_none (by rw [List.length_append, List.length_singleton]; omega)] at h
      cases h
theorem app_end {α : Type} (l : List α) (x : α) : (l ++ [x])[l.length]? = some x := by
  rw [List.getElem?_append_right (Nat.le_refl _), Nat.sub_self]
  rfl
/-- a new cell -/
theorem StRel.cell (s : StRel w z H) {p : Addr} {ob : O} {o : HO} (hp : H p = none) (r : RepO w z.as z.hm ob o) (hnt : ob.nt = true := by rfl) : StRel w ⟨z.as ++ [p], z.hm, z.st ++ [some ob]⟩ (upd H p o) ∧ Go z H ⟨z.as ++ [p], z.hm, z.st ++ [some ob]⟩ (upd H p o) := by
  have hm := s.none_hm hp
  have keep : ∀ a o', H a = some o' → upd H p o a = some o' := fun a o' h => by rw [upd_ne (ne_of_none h hp)]; exact h
  have ne : ∀ (n : Nat) (a : Addr), z.as[n]? = some a → a ≠ p := fun n a e q => by
    obtain ⟨o', h⟩ := s.trk n a e
    rw [q, hp] at h
    cases h
  refine ⟨⟨?_, fun i j a e1 e2 => ?_, fun a o' h => keep a o' (s.sub a o' h), fun n a e => ?_, fun n ob' e => ?_, fun n q e => ?_⟩, ⟨⟨[p], rfl⟩, fun _ _ h => h, fun n a h e => ?_, fun n h => get_appO h, fun a o' h => ⟨o', keep a o' h⟩, fun a o' h _ => keep a o' h, fun _ _ h n => no_two h n⟩⟩
  · show (z.as ++ [p]).length = (z.st ++ [some ob]).length
    rw [List.length_append, List.length_append, s.len]
    rfl
  · rcases app_at e1 with e1 | ⟨h1, q1⟩ <;> rcases app_at e2 with e2 | ⟨h2, q2⟩
    · exact s.nd i j a e1 e2
    · exact absurd q2 (ne i a e1)
    · exact absurd q1 (ne j a e2)
    · rw [h1, h2]
  · rcases app_at e with e | ⟨_, q⟩
    · obtain ⟨o', h⟩ := s.trk n a e
      exact ⟨o', keep a o' h⟩
    · exact ⟨o, by rw [q, upd_same]⟩
  · rcases app_at e with e | ⟨h1, q⟩
    · obtain ⟨a, ho, e1, e2, e3, r'⟩ := s.live n ob' e
      exact ⟨a, ho, get_app e1, e2, keep a ho e3, r'.mono (fun _ _ q => get_app q) fun _ _ q => q⟩
    · cases q
      exact ⟨p, o, by rw [h1, ← s.len]; exact app_end z.as p, hm, upd_same, r.mono (fun _ _ q => get_app q) fun _ _ q => q⟩
  · rcases app_at e with e | ⟨_, k⟩
    · obtain ⟨c, P, h1, h2⟩ := s.tabs n q e
      exact ⟨c, P, h1, get_app h2⟩
    · cases k
      cases hnt
  · have e : (z.as ++ [p])[n]? = some a := e
    rcases app_at e with e | ⟨_, q⟩
    · exact (no_at h e).elim
    · rw [q]; exact hp
theorem StRel.tabs_app (s : StRel w z H) {ob : O} (hnt : ob.nt = true) (D : Addr) : ∀ (n q : Nat), (z.st ++ [some ob])[n]? = some (some (.tab q)) → ∃ c P, w.cs q = some (c, P) ∧ (z.as ++ [D])[n]? = some P := fun n q e => by
  rcases app_at e with e | ⟨_, k⟩
  · obtain ⟨c, P, h1, h2⟩ := s.tabs n q e
    exact ⟨c, P, h1, get_app h2⟩
  · cases k
    cases hnt
theorem set_at {α : Type} {l : List α} {x y : α} {n m : Nat} (h : (l.set n x)[m]? = some y) : (m = n ∧ y = x) ∨ (m ≠ n ∧ l[m]? = some y) := by
  by_cases e : n = m
  · subst e
    by_cases hl : n < l.length
    · rw [List.getElem?_set_self hl] at h
      exact .inl ⟨rfl, (Option.some.inj h).symm⟩
    · rw [List.getElem?_eq_none (by rw [List.length_set]; omega)] at h
      cases h
  · rw [List.getElem?_set_ne e] at h
    exact .inr ⟨fun q => e q.symm, h⟩
theorem set_some {α : Type} {l : List α} {x y : α} {n m : Nat} (h : l[m]? = some y) (ne : m ≠ n) : (l.set n x)[m]? = some y := by
  rw [List.getElem?_set_ne (fun q => ne q.symm)]
  exact h
theorem set_self {α : Type} {l : List α} {x y : α} {n : Nat} (h : l[n]? = some y) : (l.set n x)[n]? = some x := by
  rw [List.getElem?_set_self (List.getElem?_eq_some_iff.mp h).1]
/-- a cell is written -/
theorem StRel.put (s : StRel w z H) {n : Nat} {a : Addr} {ob ob' : O} {ho' : HO} (hn : z.st[n]? = some (some ob)) (ha : z.as[n]? = some a) (r : RepO w z.as z.hm ob' ho') (ht : ob'.nt = true ∨ ob' = ob := by exact .inl rfl) :
    StRel w ⟨z.as, z.hm, z.st.set n (some ob')⟩ (upd H a ho') ∧ Go z H ⟨z.as, z.hm, z.st.set n (some ob')⟩ (upd H a ho') := by
  obtain ⟨a1, ho, e1, e2, e3, _⟩ := s.live n ob hn
  rw [ha] at e1
  cases e1
  have keep : ∀ b o', H b = some o' → b ≠ a → upd H a ho' b = some o' := fun b o' h ne => by rw [upd_ne ne]; exact h
  have there : ∀ b o', H b = some o' → ∃ o'', upd H a ho' b = some o'' := fun b o' h => by
    by_cases e : b = a
    · subst e
      exact ⟨_, upd_same⟩
    · exact ⟨o', keep b o' h e⟩
  refine ⟨⟨by show z.as.length = (z.st.set n (some ob')).length; rw [List.length_set, s.len], s.nd, fun b o' h => ?_, fun m b e => ?_, fun m ob2 e => ?_, fun m q e => ?_⟩, ⟨⟨[], by simp⟩, fun _ _ h => h, fun n a h e => (no_at h e).elim, fun m h => ?_, there, fun b o' h k => ?_, fun _ _ h n => no_two h n⟩⟩
  · refine keep b o' (s.sub b o' h) fun e => ?_
    have h : z.hm b = some o' := h
    rw [e, e2] at h
    cases h
  · obtain ⟨o', h⟩ := s.trk m b e
    exact there b o' h
  · rcases set_at e with ⟨h1, h2⟩ | ⟨h1, h2⟩
    · subst h1
      cases h2
      exact ⟨a, ho', ha, e2, upd_same, r⟩
    · obtain ⟨b, ho2, q1, q2, q3, q4⟩ := s.live m ob2 h2
      exact ⟨b, ho2, q1, q2, keep b ho2 q3 (fun e => h1 (s.nd m n b q1 (e ▸ ha))), q4⟩
  · rcases set_at e with ⟨h1, h2⟩ | ⟨_, h2⟩
    · cases h2
      rcases ht with k | k
      · cases k
      · subst k
        exact s.tabs m q (by rw [h1]; exact hn)
    · exact s.tabs m q h2
  · refine set_some h fun e => ?_
    subst e
    rw [hn] at h
    cases h
  · refine keep b o' h fun e => ?_
    subst e
    have := k n ha
    rw [hn] at this
    cases this
/-- what a cell holds, as a pure value -/
def O.pure : O → T
  | .lst ts => .lst ts
  | .dic ks ts => .dic ks ts
  | .ins c fs ts => .ins c fs ts
  | .tab _ => .non
/-- a cell becomes pure -/
theorem StRel.freeze (s : StRel w z H) {n : Nat} {ob : O} (hnt : ob.nt = true) (hn : z.st[n]? = some (some ob)) {v : V} (hv : Rep w z.as z.hm (.cell n) v) :
    ∃ hm', StRel w ⟨z.as, hm', z.st.set n none⟩ H ∧ Go z H ⟨z.as, hm', z.st.set n none⟩ H ∧ Rep w z.as hm' ob.pure v := by
  obtain ⟨a, ho, e1, e2, e3, r⟩ := s.live n ob hn
  unfold Rep at hv
  obtain ⟨a', ha', rfl⟩ := hv
  rw [e1] at ha'
  cases ha'
  have mono : ∀ b o', z.hm b = some o' → upd z.hm a ho b = some o' := fun b o' h => by rw [upd_ne (ne_of_none h e2)]; exact h
  have r' := r.mono (as' := z.as) (fun _ _ q => q) mono
  refine ⟨upd z.hm a ho, ⟨by show z.as.length = (z.st.set n none).length; rw [List.length_set, s.len], s.nd, fun b o' h => ?_, s.trk, fun m ob2 e => ?_, fun m q e => ?_⟩, ⟨⟨[], by simp⟩, mono, fun n a h e => (no_at h e).elim, fun m h => ?_, fun b o' h => ⟨o', h⟩, fun b o' h _ => h, fun b o' h n' => ?_⟩, ?_⟩
  · have h : upd z.hm a ho b = some o' := h
    by_cases e : b = a
    · subst e
      rw [upd_same] at h
      cases h
      exact e3
    · rw [upd_ne e] at h
      exact s.sub b o' h
  · rcases set_at e with ⟨_, h2⟩ | ⟨h1, h2⟩
    · cases h2
    · obtain ⟨b, ho2, q1, q2, q3, q4⟩ := s.live m ob2 h2
      refine ⟨b, ho2, q1, ?_, q3, q4.mono (fun _ _ q => q) mono⟩
      show upd z.hm a ho b = none
      rw [upd_ne (fun (e : b = a) => h1 (s.nd m n b q1 (by rw [e]; exact e1)))]
      exact q2
  · rcases set_at e with ⟨_, h2⟩ | ⟨_, h2⟩
    · cases h2
    · exact s.tabs m q h2
  · by_cases e : m = n
    · subst e
      exact set_self hn
    · exact set_some h e
  · have h : upd z.hm a ho b = some o' := h
    by_cases e : b = a
    · exact .inr ⟨n, by rw [e]; exact e1⟩
    · rw [upd_ne e] at h
      exact no_two h n'
  · cases ob with
    | lst ts =>
      obtain ⟨vs, rfl, q⟩ := r'
      show Rep w z.as _ (.lst ts) _
      unfold Rep
      exact ⟨a, vs, rfl, upd_same, q⟩
    | dic ks ts =>
      obtain ⟨kvs, rfl, k, q⟩ := r'
      show Rep w z.as _ (.dic ks ts) _
      unfold Rep
      exact ⟨a, kvs, rfl, upd_same, k, q⟩
    | ins c fs ts =>
      obtain ⟨dx, kvs, rfl, k, q⟩ := r'
      show Rep w z.as _ (.ins c fs ts) _
      unfold Rep
      exact ⟨a, dx, kvs, rfl, upd_same, k, q⟩
    | tab q => cases hnt
end
/-! ### a def's own cells go -/
mutual
/-- all cells within are below n -/
def T.lt (n : Nat) : T → Bool
  | .tup ts => T.lts n ts
  | .lst ts => T.lts n ts
  | .dic _ ts => T.lts n ts
  | .ins _ _ ts => T.lts n ts
  | .err _ _ ts => T.lts n ts
  | .cell m => decide (m < n)
  | _ => true
def T.lts (n : Nat) : List T → Bool
  | [] => true
  | t :: ts => t.lt n && T.lts n ts
end
def O.lt (n : Nat) : O → Bool
  | .lst ts => T.lts n ts
  | .dic _ ts => T.lts n ts
  | .ins _ _ ts => T.lts n ts
  | .tab _ => true
mutual
def T.beq : T → T → Bool
  | .non, .non => true
  | .bl a, .bl b => a == b
  | .int a, .int b => decide (a = b)
  | .str a, .str b => decide (a = b)
  | .ty a, .ty b => decide (a = b)
  | .gl a, .gl b => decide (a = b)
  | .tup a, .tup b => T.beqs a b
  | .lst a, .lst b => T.beqs a b
  | .dic k a, .dic l b => decide (k = l) && T.beqs a b
  | .ins c k a, .ins d l b => decide (c = d) && decide (k = l) && T.beqs a b
  | .scr a, .scr b => decide (a = b)
  | .cell a, .cell b => decide (a = b)
  | .err c k a, .err d l b => decide (c = d) && decide (k = l) && T.beqs a b
  | _, _ => false
def T.beqs : List T → List T → Bool
  | [], [] => true
  | a :: as, b :: bs => T.beq a b && T.beqs as bs
  | _, _ => false
end
mutual
theorem T.beq_eq : ∀ a b : T, T.beq a b = true → a = b
  | a, b, h => by
    cases a <;> cases b <;> first | (exact absurd h Bool.false_ne_true) | skip
    · rfl
    · simp [T.beq] at h; rw [h]
    · simp [T.beq] at h; rw [h]
    · simp [T.beq] at h; rw [h]
    · simp [T.beq] at h; rw [h]
    · simp [T.beq] at h; rw [h]
    · rename_i x y; rw [T.beqs_eq x y (by simpa [T.beq] using h)]
    · rename_i x y; rw [T.beqs_eq x y (by simpa [T.beq] using h)]
    · rename_i k x l y; simp [T.beq] at h; rw [h.1, T.beqs_eq x y h.2]
    · rename_i c k x d l y; simp [T.beq] at h; rw [h.1.1, h.1.2, T.beqs_eq x y h.2]
    · simp [T.beq] at h; rw [h]
    · simp [T.beq] at h; rw [h]
    · rename_i c k x d l y; simp [T.beq] at h; rw [h.1.1, h.1.2, T.beqs_eq x y h.2]
theorem T.beqs_eq : ∀ a b : List T, T.beqs a b = true → a = b
  | [], [], _ => rfl
  | [], _ :: _, h => by simp [T.beqs] at h
  | _ :: _, [], h => by simp [T.beqs] at h
  | a :: as, b :: bs, h => by
    simp [T.beqs] at h
    rw [T.beq_eq a b h.1, T.beqs_eq as bs h.2]
end
mutual
theorem T.beq_refl : ∀ a : T, T.beq a a = true
  | .non => rfl
  | .bl a => by simp [T.beq]
  | .int a => by simp [T.beq]
  | .str a => by simp [T.beq]
  | .ty a => by simp [T.beq]
  | .gl a => by simp [T.beq]
  | .tup a => by simp [T.beq, T.beqs_refl a]
  | .lst a => by simp [T.beq, T.beqs_refl a]
  | .dic k a => by simp [T.beq, T.beqs_refl a]
  | .ins c k a => by simp [T.beq, T.beqs_refl a]
  | .err c k a => by simp [T.beq, T.beqs_refl a]
  | .scr a => by simp [T.beq]
  | .cell a => by simp [T.beq]
theorem T.beqs_refl : ∀ a : List T, T.beqs a a = true
  | [] => rfl
  | a :: as => by simp [T.beqs, T.beq_refl a, T.beqs_refl as]
end
def O.beq : O → O → Bool
  | .lst a, .lst b => T.beqs a b
  | .dic k a, .dic l b => decide (k = l) && T.beqs a b
  | .ins c k a, .ins d l b => decide (c = d) && decide (k = l) && T.beqs a b
  | .tab a, .tab b => decide (a = b)
  | _, _ => false
theorem O.beq_eq {a b : O} (h : O.beq a b = true) : a = b := by
  cases a <;> cases b <;> first | (exact absurd h Bool.false_ne_true) | skip
  · rename_i x y; rw [T.beqs_eq x y h]
  · rename_i k x l y; simp [O.beq] at h; rw [h.1, T.beqs_eq x y h.2]
  · rename_i c k x d l y; simp [O.beq] at h; rw [h.1.1, h.1.2, T.beqs_eq x y h.2]
  · simp [O.beq] at h; rw [h]
theorem O.beq_refl (a : O) : O.beq a a = true := by
  cases a <;> simp [O.beq, T.beqs_refl]
/-- nothing of the old store refers to a new cell: it is as it was, or all its cells are old -/
def okDrop (n : Nat) : Sto → Sto → Bool
  | [], _ => true
  | _ :: _, [] => false
  | none :: st, none :: st' => okDrop n st st'
  | some _ :: st, none :: st' => okDrop n st st'
  | none :: _, some _ :: _ => false
  | some a :: st, some b :: st' => (O.beq a b || b.lt n) && okDrop n st st'
theorem okDrop_at {n : Nat} : ∀ {st st' : Sto} {i : Nat} {o : O}, okDrop n st st' = true → i < st.length → st'[i]? = some (some o) → ∃ o', st[i]? = some (some o') ∧ (o' = o ∨ o.lt n = true)
  | [], _, _, _, _, h, _ =>
          by simp at h
  | _ :: _, [], _, _, h, _, _ => by simp [okDrop] at h
  | none :: st, none :: st', 0, o, h, _, e => by simp at e
  | none :: st, none :: st', i + 1, o, h, hi, e => by
    have := okDrop_at (i := i) (o := o) (st := st) (st' := st') (by simpa [okDrop] using h) (by simpa using hi) (by simpa using e)
    simpa using this
  | some _ :: st, none :: st', 0, o, h, _, e => by simp at e
  | some _ :: st, none :: st', i + 1, o, h, hi, e => by
    have := okDrop_at (i := i) (o := o) (st := st) (st' := st') (by simpa [okDrop] using h) (by simpa using hi) (by simpa using e)
    simpa using this
  | none :: _, some _ :: _, _, _, h, _, _ => by simp [okDrop] at h
  | some a :: st, some b :: st', 0, o, h, _, e => by
    simp [okDrop] at h
    simp at e
    subst e
    refine ⟨a, rfl, ?_⟩
    rcases h.1 with q | q
    · exact .inl (O.beq_eq q)
    · exact .inr q
  | some a :: st, some b :: st', i + 1, o, h, hi, e => by
    simp [okDrop] at h
    have := okDrop_at (i := i) (o := o) (st := st) (st' := st') h.2 (by simpa using hi) (by simpa using e)
    simpa using this
section
variable {w : Wd} {as as' : List Addr} {H H' : Hp}
mutual
theorem Rep.cut (n : Nat) : ∀ (t : T) (v : V), t.lt n = true → Rep w as H t v → Rep w (as.take n) H t v
  | .non, _, _, h => by unfold Rep at h ⊢; exact h
  | .bl _, _, _, h => by unfold Rep at h ⊢; exact h
  | .int _, _, _, h => by unfold Rep at h ⊢; exact h
  | .str _, _, _, h => by unfold Rep at h ⊢; exact h
  | .ty _, _, _, h => by unfold Rep at h ⊢; exact h
  | .gl _, _, _, h => by unfold Rep at h ⊢; exact h
  | .tup ts, _, l, h => by
    unfold Rep at h ⊢
    obtain ⟨a, vs, e, q, r⟩ := h
    exact ⟨a, vs, e, q, Reps.cut n ts vs (by simpa [T.lt] using l) r⟩
  | .lst ts, _, l, h => by
    unfold Rep at h ⊢
    obtain ⟨a, vs, e, q, r⟩ := h
    exact ⟨a, vs, e, q, Reps.cut n ts vs (by simpa [T.lt] using l) r⟩
  | .dic ks ts, _, l, h => by
    unfold Rep at h ⊢
    obtain ⟨a, kvs, e, q, k, r⟩ := h
    exact ⟨a, kvs, e, q, k, Reps.cut n ts _ (by simpa [T.lt] using l) r⟩
  | .ins c fs ts, _, l, h => by
    unfold Rep at h ⊢
    obtain ⟨a, dx, kvs, e, q, k, r⟩ := h
    exact ⟨a, dx, kvs, e, q, k, Reps.cut n ts _ (by simpa [T.lt] using l) r⟩
  | .err c fs ts, _, l, h => by
    unfold Rep at h ⊢
    obtain ⟨a, d, kvs, e0, e, q, k, r⟩ := h
    exact ⟨a, d, kvs, e0, e, q, k, Reps.cut n ts _ (by simpa [T.lt] using l) r⟩
  | .scr _, _, _, h => by unfold Rep at h ⊢; exact h
  | .cell m, _, l, h => by
    unfold Rep at h ⊢
    obtain ⟨a, e, q⟩ := h
    refine ⟨a, ?_, q⟩
    rw [List.getElem?_take_of_lt (by simpa [T.lt] using l)]
    exact e
theorem Reps.cut (n : Nat) : ∀ (ts : List T) (vs : List V), T.lts n ts = true → Reps w as H ts vs → Reps w (as.take n) H ts vs
  | [], _, _, h => by unfold Reps at h ⊢; exact h
  | t :: ts, _, l, h => by
    unfold Reps at h ⊢
    obtain ⟨v, r, e, q1, q2⟩ := h
    simp [T.lts] at l
    exact ⟨v, r, e, Rep.cut n t v l.1 q1, Reps.cut n ts r l.2 q2⟩
end
mutual
theorem Rep.small : ∀ (t : T) (v : V), Rep w as H t v → t.lt as.length = true
  | .non, _, _ => rfl
  | .bl _, _, _ => rfl
  | .int _, _, _ => rfl
  | .str _, _, _ => rfl
  | .ty _, _, _ => rfl
  | .gl _, _, _ => rfl
  | .tup ts, _, h => by
    unfold Rep at h
    obtain ⟨a, vs, e, q, r⟩ := h
    simpa [T.lt] using Reps.small ts vs r
  | .lst ts, _, h => by
    unfold Rep at h
    obtain ⟨a, vs, e, q, r⟩ := h
    simpa [T.lt] using Reps.small ts vs r
  | .dic ks ts, _, h => by
    unfold Rep at h
    obtain ⟨a, kvs, e, q, k, r⟩ := h
    simpa [T.lt] using Reps.small ts _ r
  | .ins c fs ts, _, h => by
    unfold Rep at h
    obtain ⟨a, dx, kvs, e, q, k, r⟩ := h
    simpa [T.lt] using Reps.small ts _ r
  | .err c fs ts, _, h => by
    unfold Rep at h
    obtain ⟨a, d, kvs, e0, e, q, k, r⟩ := h
    simpa [T.lt] using Reps.small ts _ r
  | .scr _, _, _ => rfl
  | .cell m, _, h => by
    unfold Rep at h
    obtain ⟨a, e, q⟩ := h
    simpa [T.lt] using (List.getElem?_eq_some_iff.mp e).1
theorem Reps.small : ∀ (ts : List T) (vs : List V), Reps w as H ts vs → T.lts as.length ts = true
  | [], _, _ => rfl
  | t :: ts, _, h => by
    unfold Reps at h
    obtain ⟨v, r, e, q1, q2⟩ := h
    simp [T.lts, Rep.small t v q1, Reps.small ts r q2]
end
theorem RepO.cut {n : Nat} {o : O} {ho : HO} (l : o.lt n = true) (h : RepO w as H o ho) : RepO w (as.take n) H o ho := by
  cases o with
  | lst ts => obtain ⟨vs, e, r⟩ := h; exact ⟨vs, e, Reps.cut n ts vs l r⟩
  | dic ks ts => obtain ⟨kvs, e, k, r⟩ := h; exact ⟨kvs, e, k, Reps.cut n ts _ l r⟩
  | ins c fs ts => obtain ⟨dx, kvs, e, k, r⟩ := h; exact ⟨dx, kvs, e, k, Reps.cut n ts _ l r⟩
  | tab q => exact h
theorem RepO.small {o : O} {ho : HO} (h : RepO w as H o ho) : o.lt as.length = true := by
  cases o with
  | lst ts => obtain ⟨vs, e, r⟩ := h; exact Reps.small ts vs r
  | dic ks ts => obtain ⟨kvs, e, k, r⟩ := h; exact Reps.small ts _ r
  | ins c fs ts => obtain ⟨dx, kvs, e, k, r⟩ := h; exact Reps.small ts _ r
  | tab q => rfl
end
section
variable {w : Wd} {z z' : Z} {H H' : Hp}
theorem take_at {α : Type} {l : List α} {n i : Nat} {x : α} (h : (l.take n)[i]? = some x) : i < n ∧ l[i]? = some x := by
  by_cases hi : i < n
  · rw [List.getElem?_take_of_lt hi] at h
    exact ⟨hi, h⟩
  · rw [List.getElem?_eq_none (by rw [List.length_take]; omega)] at h
    cases h
theorem StRel.drop (s : StRel w z H) (g : Go z H z' H') (s' : StRel w z' H') (d : okDrop z.st.length z.st z'.st = true) :
    StRel w ⟨z.as, z'.hm, z'.st.take z.st.length⟩ H' ∧ Go z H ⟨z.as, z'.hm, z'.st.take z.st.length⟩ H' := by
  obtain ⟨l, e⟩ := g.pre
  have tk : z'.as.take z.st.length = z.as := by rw [e, ← s.len, List.take_left]
  have hl : z.st.length ≤ z'.st.length := by
    rw [← s.len, ← s'.len, e, List.length_append]
    omega
  refine ⟨⟨?_, s.nd, s'.sub, fun n a q => ?_, fun n o q => ?_, fun n q e2 => ?_⟩, ⟨⟨[], by simp⟩, g.hm, fun n a h q => (no_at h q).elim, fun n h => ?_, g.there, g.kept, g.old⟩⟩
  · show z.as.length = (z'.st.take z.st.length).length
    rw [List.length_take, s.len]
    omega
  · obtain ⟨o, h⟩ := s.trk n a q
    exact g.there a o h
  · obtain ⟨hn, q1⟩ := take_at q
    obtain ⟨o', h1, h2⟩ := okDrop_at d hn q1
    obtain ⟨a, ho, q2, q3, q4, q5⟩ := s'.live n o q1
    have small : o.lt z.st.length = true := by
      rcases h2 with h2 | h2
      · subst h2
        obtain ⟨_, _, _, _, _, r⟩ := s.live n _ h1
        rw [← s.len]
        exact r.small
      · exact h2
    have q6 := q5.cut small
    rw [tk] at q6
    refine ⟨a, ho, ?_, q3, q4, q6⟩
    rw [← tk, List.getElem?_take_of_lt hn]
    exact q2
  · obtain ⟨hn, q1⟩ := take_at e2
    obtain ⟨c, P, h1, h2⟩ := s'.tabs n q q1
    refine ⟨c, P, h1, ?_⟩
    show z.as[n]? = some P
    rw [← tk, List.getElem?_take_of_lt hn]
    exact h2
  · have hn : n < z.st.length := (List.getElem?_eq_some_iff.mp h).1
    rw [List.getElem?_take_of_lt hn]
    exact g.dead n h
theorem Rep.dropped (s : StRel w z H) (g : Go z H z' H') {t : T} {v : V} (l : t.lt z.st.length = true) (h : Rep w z'.as z'.hm t v) : Rep w z.as z'.hm t v := by
  obtain ⟨m, e⟩ := g.pre
  have tk : z'.as.take z.st.length = z.as := by rw [e, ← s.len, List.take_left]
  have := Rep.cut z.st.length t v l h
  rw [tk] at this
  exact this
end
end Mu
end
section
set_option Elab.async false
set_option linter.all false
set_option maxRecDepth 100000
set_option maxHeartbeats 4000010
/-! Mu, part 2: a compact syntax and what it evaluates to. -/
namespace Mu
open PySem
open PySem.Spec
open PyProof.Rows
open L2

/-- built-in functions; methods of built-in types -/
inductive B where
  | len | sum | all | any | maxL | minL | max2 | min2 | tuple | list | sorted | int | int2 | str | abs | divmod | repr | isi
  deriving DecidableEq
inductive M where
  | append | extend | pop | popAt | index | count | join | split | partition | startswith | get2 | lindex | lcount
  deriving DecidableEq
/-- own special methods: what len, str tell of an instance -/
inductive O1 where
  | len | str
  deriving DecidableEq
/-- targets: a slot, several, an item of a slot's list -/
inductive G where
  | nm (i : Nat) | two (a b : G) | three (a b c : G) | four (a b c d : G) | sub (o : Nat) (k : Int)
mutual
inductive X where
  | v (i : Nat) | c (t : T) | gl (x : Nat) | gc (x : Str) (t : T) | bty (x : Str) (n : String)
  | bin (op : Operator) (a b : X) | cmp (op : CmpOp) (a b : X) | chn (o p : CmpOp) (a b c : X)
  | and2 (a b : X) | or2 (a b : X) | one (a : X) | not1 (a : X) | neg (a : X) | ite (c a b : X)
  | tup (es : Xs) | lst (k : Bool) (es : Xs) | dnew (k : Bool) | disp (k : Bool) (ks : List Ky) (es : Xs)
  | cl (f : Nat) (es : Xs) | clk (f : Nat) (pm : List Nat) (es : Xs)
  | bl (b : B) (es : Xs) | mt (m : M) (o : X) (es : Xs) | om (m : Nat) (o : X) (es : Xs) | mk (c : Nat) (es : Xs)
  | ix (a b : X) | sl (a : X) (lo hi : Xs) | fld (a : X) (f : Nat)
  | comp (k : Bool) (e : X) (g : G) (it : X) (own : List Nat) (cs : Xs)
  | comp2 (e : X) (g1 : G) (i1 : X) (g2 : G) (i2 : X) (own : List Nat) (cs : Xs)
  | dmk (k : Bool) (a : X) | dcomp (k : Bool) (ek e : X) (g : G) (it : X) (own : List Nat) (cs : Xs)
  | rng1 (a : X) | rng2 (a b : X) | enum (a : X) | zip (a b : X)
  | tr (a : X) | it (a : X)
  | minK (q : Nat) (a : X) (i : Int) | isE (a b : X) | fldE (a : X) (f : Nat)
  | sp1 (o : O1) (m : Nat) (a : X) | eqO (n : Bool) (m : Nat) (a b : X) | trO (m : Nat) (a : X) | mkk (c : Nat) (pm : List Nat) (es : Xs) | omk (m f : Nat) (pm : List Nat) (o : X) (es : Xs)
  | fs (es : Xs) | fm (a : X) | eqL (n : Bool) (m : Nat) (a b : X)
inductive Xs where
  | nil | cons (a : X) (r : Xs)
end
mutual
inductive S where
  | ex (e : X) | set (i : Nat) (e : X) | asg (g : G) (e : X) | par (i j : Nat) (a b : X) | put (o i e : X) | fput (o : X) (f : Nat) (e : X)
  | aug (i : Nat) (op : Operator) (e : X) | ret (e : X) | retN | pass | brk | cnt
  | ife (c : X) (a b : Ss) | forr (g : G) (it : X) (b : Ss) | whl (n : Nat) (c : X) (b : Ss) | frz (i : Nat) | never
  | setC (i : Nat) (e : X) | doc | sub (o i : X) (j : Nat) (e : X) | sub2 (o i o2 i2 e : X)
inductive Ss where
  | nil | cons (a : S) (r : Ss)
end

/-- the slots of a target -/
def gS : G → List Nat
  | .nm i => [i]
  | .two a b => gS a ++ gS b
  | .three a b c => gS a ++ (gS b ++ gS c)
  | .four a b c d => gS a ++ (gS b ++ (gS c ++ gS d))
  | .sub _ _ => []
def Xs.len : Xs → Nat
  | .nil => 0
  | .cons _ r => r.len + 1
abbrev Env := List (Option T)
/-- a statement's end -/
inductive RS where
  | nx (e : Env) (st : Sto) | rt (t : T) (st : Sto) | bk (e : Env) (st : Sto) | ct (e : Env) (st : Sto) | exc (c : Nat) (ts : List T) (e : Env) (st : Sto) | bad

/-! ### values -/
def strLt : List Nat → List Nat → Bool
  | _, [] => false
  | [], _ :: _ => true
  | a :: as, b :: bs => if a < b then true else if a = b then strLt as bs else false
def big : Nat := 16777216
def mid : Int := 18446744073709551616
def mulOk (i j : Int) : Bool := (decide (-mid < i) && decide (i < mid)) || (decide (-mid < j) && decide (j < mid))
def replL {α : Type} (k : Nat) (l : List α) : List α := (List.replicate k l).flatten
def binV : Operator → T → T → Option T
  | .Add, .int i, .int j => some (.int (i + j))
  | .Sub, .int i, .int j => some (.int (i - j))
  | .Mult, .int i, .int j => if mulOk i j then some (.int (i * j)) else none
  | .FloorDiv, .int i, .int j => if 0 < j ∧ j < 2 ^ 2000 then some (.int (i / j)) else none
  | .Mod, .int i, .int j => if 0 < j then some (.int (i % j)) else none
  | .Pow, .int i, .int j => if 0 ≤ j ∧ j ≤ 64 ∧ -mid < i ∧ i < mid then some (.int (i ^ j.toNat)) else none
  | .LShift, .int i, .int j => if 0 ≤ j ∧ j ≤ 64 ∧ -mid < i ∧ i < mid then some (.int (i * 2 ^ j.toNat)) else none
  | .BitAnd, .int i, .int j => some (.int (Builtin.bitAnd i j))
  | .Add, .str a, .str b => if a.length + b.length ≤ big then some (.str (a ++ b)) else none
  | .Add, .lst a, .lst b => if a.length + b.length ≤ big then some (.lst (a ++ b)) else none
  | .Add, .tup a, .tup b => if a.length + b.length ≤ big then some (.tup (a ++ b)) else none
  | .Mult, .lst a, .int k => if -(2 ^ 63) ≤ k ∧ k < 2 ^ 63 ∧ a.length * k.toNat ≤ big then some (.lst (replL k.toNat a)) else none
  | _, _, _ => none
/-- data that == compares: no objects, no truths beside ints -/
def cmpV : CmpOp → T → T → Option Bool
  | .Lt, .int i, .int j => some (decide (i < j))
  | .LtE, .int i, .int j => some (decide (i ≤ j))
  | .Gt, .int i, .int j => some (decide (j < i))
  | .GtE, .int i, .int j => some (decide (j ≤ i))
  | .Lt, .str a, .str b => some (strLt a b)
  | .LtE, .str a, .str b => some (!strLt b a)
  | .Gt, .str a, .str b => some (strLt b a)
  | .GtE, .str a, .str b => some (!strLt a b)
  | _, _, _ => none

mutual
/-- flat data and lists, tuples of such; its depth at most n -/
def T.dat : Nat → T → Bool
  | _, .non => true
  | _, .bl _ => true
  | _, .int _ => true
  | _, .str cs => cs.all fun c => decide (c < 1114112)
  | n + 1, .tup ts => T.dats n ts
  | n + 1, .lst ts => T.dats n ts
  | _, _ => false
def T.dats : Nat → List T → Bool
  | _, [] => true
  | n, t :: ts => t.dat n && T.dats n ts
end
mutual
/-- == of data -/
def T.eqv : T → T → Bool
  | .non, .non => true
  | .bl a, .bl b => a == b
  | .bl a, .int j => decide ((if a then 1 else 0) = j)
  | .int i, .bl b => decide (i = (if b then 1 else 0))
  | .int i, .int j => decide (i = j)
  | .str x, .str y => decide (x = y)
  | .lst xs, .lst ys => T.eqvs xs ys
  | .tup xs, .tup ys => T.eqvs xs ys
  | _, _ => false
def T.eqvs : List T → List T → Bool
  | [], [] => true
  | x :: xs, y :: ys => T.eqv x y && T.eqvs xs ys
  | _, _ => false
end
def eqT (a b : T) : Option Bool := if a.dat 60 && b.dat 60 then some (T.eqv a b) else none
def flatT : T → Bool
  | .non => true
  | .bl _ => true
  | .int _ => true
  | .str _ => true
  | _ => false
def isN : T → Bool
  | .non => true
  | _ => false
/-- x in a list -/
def inT (x : T) : List T → Option Bool
  | [] => if x.dat 60 then some false else none
  | t :: ts => (eqT t x).bind fun b => (inT x ts).map fun c => b || c
/-- is one text within another: one sign in a text -/
def occ (c : Nat) (z : List Nat) : Bool := decide (c ∈ z)
def findK (k : Ky) : List Ky → List T → Option T
  | k' :: ks, t :: ts => if k' = k then some t else findK k ks ts
  | _, _ => none
def replKy (k : Ky) (v : T) : List Ky → List T → List T
  | k' :: ks, t :: ts => (if k' = k then v else t) :: replKy k v ks ts
  | _, _ => []
def putKy (k : Ky) (v : T) (ks : List Ky) (ts : List T) : List Ky × List T := if k ∈ ks then (ks, replKy k v ks ts) else (ks ++ [k], ts ++ [v])
def keyT : T → Option Ky
  | .int i => some (.i i)
  | .str cs => some (.s cs)
  | _ => none
/-- pairs of keys and values -/
def pairT : T → Option (Ky × T)
  | .tup [a, b] => (keyT a).map fun k => (k, b)
  | _ => none
def pairsT : List T → Option (List (Ky × T))
  | [] => some []
  | t :: ts => (pairT t).bind fun p => (pairsT ts).map fun ps => p :: ps
def dicF : List (Ky × T) → List Ky → List T → List Ky × List T
  | [], ks, ts => (ks, ts)
  | p :: ps, ks, ts => dicF ps (putKy p.1 p.2 ks ts).1 (putKy p.1 p.2 ks ts).2
def dicP (ps : List (Ky × T)) : List Ky × List T := dicF ps [] []
def cellO (st : Sto) (n : Nat) : Option O := (st[n]?).bind id
/-- a dict's keys and values: pure, or a cell's -/
def dicOf (st : Sto) : T → Option (List Ky × List T)
  | .dic ks ts => some (ks, ts)
  | .cell n => match cellO st n with
    | some (.dic ks ts) => some (ks, ts)
    | _ => none
  | _ => none
/-- a list's items: pure, or a cell's -/
def lstOf (st : Sto) : T → Option (List T)
  | .lst ts => some ts
  | .cell n => match cellO st n with
    | some (.lst ts) => some ts
    | _ => none
  | _ => none
def insOf (st : Sto) : T → Option (Nat × List Nat × List T)
  | .ins c fs ts => some (c, fs, ts)
  | .cell n => match cellO st n with
    | some (.ins c fs ts) => some (c, fs, ts)
    | _ => none
  | _ => none
/-! what repr tells -/
mutual
def toD : T → PyData
  | .bl b => .bool b
  | .int i => .int i
  | .str cs => .str ⟨cs.toArray⟩
  | .tup ts => .tuple (toDs ts)
  | .lst ts => .list (toDs ts)
  | _ => .none
def toDs : List T → List PyData
  | [] => []
  | t :: ts => toD t :: toDs ts
end
def isTupT : T → Bool
  | .tup _ => true
  | _ => false
def neTupT : T → Bool
  | .tup (_ :: _) => true
  | _ => false
def noSortT : T → Bool
  | .tup _ => true
  | .non => true
  | _ => false
def firstE : List T → Bool
  | .tup [] :: _ => true
  | _ => false
def alikeT (a b : T) : Bool := PySem.W.alike (toD a) (toD b)
/-- sorted's items: data alike; all tuples with an item, or none a tuple, or all tuples and the first one empty -/
def sortOk (us : List T) : Bool := decide (us.length ≤ big) && T.dats 20 us && us.all (fun a => us.all fun b => alikeT a b) && (us.all neTupT || us.all (fun a => !noSortT a) || (firstE us && us.all isTupT))
def leT : T → T → Bool := PySem.W.dataLe false toD
def sortT (us : List T) : List T := us.mergeSort leT
/-- tuples of data compared -/
def tupLe : T → T → Option Bool
  | .tup a, .tup b => if (T.dats 20 a && T.dats 20 b && alikeT (.tup a) (.tup b)) = true then some (leT (.tup a) (.tup b)) else none
  | _, _ => none
def cmpT (st : Sto) : CmpOp → T → T → Option Bool
  | .Eq, .str a, .str b => some (decide (a = b))
  | .NotEq, .str a, .str b => some (!decide (a = b))
  | .Eq, a, b => eqT a b
  | .NotEq, a, b => (eqT a b).map fun c => !c
  | .Is, a, .non => some (isN a)
  | .IsNot, a, .non => some (!isN a)
  | .Is, .bl a, .bl b => some (a == b)
  | .IsNot, .bl a, .bl b => some (!(a == b))
  | .Is, _, _ => none
  | .IsNot, _, _ => none
  | .In, .str [c], .str z => some (occ c z)
  | .NotIn, .str [c], .str z => some (!occ c z)
  | .In, a, .tup ts => if flatT a = true ∧ ts.all flatT = true then some (ts.any fun t => T.eqv t a) else none
  | .NotIn, a, .tup ts => if flatT a = true ∧ ts.all flatT = true then some (!ts.any fun t => T.eqv t a) else none
  | .In, a, b => match lstOf st b with
    | some ts => inT a ts
    | none => match dicOf st b, keyT a with
      | some (ks, ts), some k => some (findK k ks ts).isSome
      | _, _ => none
  | .NotIn, a, b => match lstOf st b with
    | some ts => (inT a ts).map fun c => !c
    | none => match dicOf st b, keyT a with
      | some (ks, ts), some k => some (!(findK k ks ts).isSome)
      | _, _ => none
  | .Lt, a, b => cmpV .Lt a b
  | .LtE, a, b => match cmpV .LtE a b with
    | some r => some r
    | none => tupLe a b
  | .Gt, a, b => cmpV .Gt a b
  | .GtE, a, b => cmpV .GtE a b
def truV (st : Sto) : T → Option Bool
  | .non => some false
  | .bl b => some b
  | .int i => some (decide (i ≠ 0))
  | .str cs => if cs.length ≤ big then some (!cs.isEmpty) else none
  | .tup ts => some (!ts.isEmpty)
  | a => match lstOf st a with
    | some ts => some (!ts.isEmpty)
    | none => match dicOf st a with
      | some (ks, _) => some (!ks.isEmpty)
      | none => none
/-- xs[i] -/
def atT {α : Type} (xs : List α) (i : Int) : Option α := if 0 ≤ i then xs[i.toNat]? else if -(xs.length : Int) ≤ i then xs[(i + xs.length).toNat]? else none
def ixT (st : Sto) : T → T → Option T
  | .tup ts, .int i => atT ts i
  | .str cs, .int i => if cs.length ≤ big then (atT cs i).map fun c => .str [c] else none
  | .scr ns, .int i => (atT ns i).map .int
  | a, b => match lstOf st a with
    | some ts => match b with
      | .int i => atT ts i
      | _ => none
    | none => match dicOf st a, keyT b with
      | some (ks, ts), some k => findK k ks ts
      | _, _ => none
def sIx (n d : Nat) : Option Int → Nat := fun o => o.elim d fun v => if 0 ≤ v then min v.toNat n else (v + n).toNat
def cutT {α : Type} (xs : List α) (lo hi : Option Int) : List α := (xs.drop (sIx xs.length 0 lo)).take (sIx xs.length xs.length hi - sIx xs.length 0 lo)
def slT (st : Sto) : T → Option Int → Option Int → Option T
  | .tup ts, lo, hi => some (.tup (cutT ts lo hi))
  | .str cs, lo, hi => if cs.length ≤ big then some (.str (cutT cs lo hi)) else none
  | .scr ns, lo, hi => some (.lst ((cutT ns lo hi).map .int))
  | a, lo, hi => match lstOf st a with
    | some ts => some (.lst (cutT ts lo hi))
    | none => none
def intsT : List T → Option (List Int)
  | [] => some []
  | .int i :: ts => (intsT ts).map fun r => i :: r
  | _ :: _ => none
def blsT : List T → Option (List Bool)
  | [] => some []
  | .bl b :: ts => (blsT ts).map fun r => b :: r
  | _ :: _ => none
def strsT : List T → Option (List (List Nat))
  | [] => some []
  | .str x :: ts => (strsT ts).map fun r => x :: r
  | _ :: _ => none
def insS (x : List Nat) : List (List Nat) → List (List Nat)
  | [] => [x]
  | y :: ys => if strLt x y then x :: y :: ys else y :: insS x ys
def sortS : List (List Nat) → List (List Nat)
  | [] => []
  | x :: xs => insS x (sortS xs)
def maxI : List Int → Int → Int
  | [], m => m
  | x :: xs, m => maxI xs (if m < x then x else m)
def minI : List Int → Int → Int
  | [], m => m
  | x :: xs, m => minI xs (if x < m then x else m)
/-- 0 and 1 as a number -/
def binN : List Nat → Nat → Option Nat
  | [], a => some a
  | 48 :: cs, a => binN cs (2 * a)
  | 49 :: cs, a => binN cs (2 * a + 1)
  | _ :: _, _ => none
/-- a decimal number of up to 18 figures -/
def decN : List Nat → Nat → Option Nat
  | [], a => some a
  | c :: cs, a => if 48 ≤ c ∧ c ≤ 57 then decN cs (10 * a + (c - 48)) else none
def natS : Nat → Nat → List Nat → List Nat
  | 0, _, acc => acc
  | f + 1, n, acc => if n < 10 then (48 + n) :: acc else natS f (n / 10) ((48 + n % 10) :: acc)

/-- what a def's classes are: the def of __init__, the methods' defs by their names' numbers, whether an instance stays as it is made -/
structure Cl where
  init : Nat
  ms : List (Nat × Nat)
  fs : List Nat
  imm : Bool
/-- a type, as isinstance sees it: a built-in one, a class -/
inductive Ck where
  | ty (n : String) | cls (c : Nat)
  deriving DecidableEq
structure Pg where
  cls : Nat → Option Cl
  kit : List (Ck × Ck × Bool)
  ekit : List (Nat × Ck × Bool) := []
  own : List Nat := []
  efs : List (Nat × Nat) := []
/-- isinstance(x, c): c a built-in type by its name, or a class -/
def tyName (st : Sto) : T → Option String
  | .non => some "NoneType"
  | .bl _ => some "bool"
  | .int _ => some "int"
  | .str _ => some "str"
  | .tup _ => some "tuple"
  | a => match lstOf st a with
    | some _ => some "list"
    | none => match dicOf st a with
      | some _ => some "dict"
      | none => none
def ckOf (st : Sto) (x : T) : Option Ck := match tyName st x with
  | some m => some (.ty m)
  | none => match insOf st x with
    | some (c, _, _) => some (.cls c)
    | none => none
def ckC : T → Option Ck
  | .ty n => some (.ty n)
  | .gl k => some (.cls k)
  | _ => none
def lookC (a b : Ck) : List (Ck × Ck × Bool) → Option Bool
  | [] => none
  | (x, y, r) :: l => if x = a ∧ y = b then some r else lookC a b l
def isiT (pg : Pg) (st : Sto) (x c : T) : Option Bool := match ckOf st x with
  | some a => match ckC c with
    | some b => lookC a b pg.kit
    | none => none
  | none => none
def lenT (st : Sto) : List T → Option T
  | [.str cs] => if cs.length ≤ big then some (.int cs.length) else none
  | [.tup ts] => some (.int ts.length)
  | [.scr ns] => some (.int ns.length)
  | [a] => match lstOf st a with
    | some ts => some (.int ts.length)
    | none => match dicOf st a with
      | some (ks, _) => some (.int ks.length)
      | none => none
  | _ => none
def lst1 (st : Sto) : List T → Option (List T)
  | [a] => lstOf st a
  | _ => none
def sumT (st : Sto) : List T → Option T
  | [.tup ts] => (intsT ts).map fun ns => .int ns.sum
  | ts => match lst1 st ts with
    | some us => (intsT us).map fun ns => .int ns.sum
    | none => none
def allT (st : Sto) (ts : List T) : Option T := match lst1 st ts with
  | some us => (blsT us).map fun bs => .bl (bs.all id)
  | none => none
def anyT (st : Sto) (ts : List T) : Option T := match lst1 st ts with
  | some us => (blsT us).map fun bs => .bl (bs.any id)
  | none => none
def tup1 : List T → Option (List T)
  | [.tup ts] => some ts
  | _ => none
def maxT (st : Sto) (ts : List T) : Option T := match tup1 ts with
  | some us => match intsT us with
    | some (x :: xs) => some (.int (maxI xs x))
    | _ => none
  | none => match lst1 st ts with
    | some us => match intsT us with
      | some (x :: xs) => some (.int (maxI xs x))
      | _ => none
    | none => none
def minT (st : Sto) (ts : List T) : Option T := match tup1 ts with
  | some us => match intsT us with
    | some (x :: xs) => some (.int (minI xs x))
    | _ => none
  | none => match lst1 st ts with
    | some us => match intsT us with
      | some (x :: xs) => some (.int (minI xs x))
      | _ => none
    | none => none
def max2T : List T → Option T
  | [.int i, .int j] => some (.int (if j > i then j else i))
  | _ => none
def min2T : List T → Option T
  | [.int i, .int j] => some (.int (if j < i then j else i))
  | _ => none
def tupT (st : Sto) : List T → Option T
  | [.tup ts] => some (.tup ts)
  | ts => (lst1 st ts).map .tup
def listT (st : Sto) : List T → Option T
  | [.tup ts] => some (.lst ts)
  | ts => (lst1 st ts).map .lst
def ksS : List Ky → Option (List (List Nat))
  | [] => some []
  | .s x :: ks => (ksS ks).map fun r => x :: r
  | _ :: _ => none
def dic1 (st : Sto) : List T → Option (List Ky)
  | [a] => (dicOf st a).map (·.1)
  | _ => none
def sortedT (st : Sto) (ts : List T) : Option T := match lst1 st ts with
  | some us => match strsT us with
    | some xs => if xs.length < 64 then some (.lst ((sortS xs).map .str)) else none
    | none => if sortOk us = true then some (.lst (sortT us)) else none
  | none => match (dic1 st ts).bind ksS with
    | some xs => if xs.length < 64 then some (.lst ((sortS xs).map .str)) else none
    | none => none
def intT : List T → Option T
  | [.int i] => some (.int i)
  | [.bl b] => some (.int (if b then 1 else 0))
  | [.str cs] => if cs.length ≤ 640 then (PySem.intText? ⟨cs.toArray⟩).map fun n => .int n else none
  | _ => none
def int2T : List T → Option T
  | [.str cs, .int b] => if b = 2 ∧ cs.length ≤ 64 ∧ 0 < cs.length then (binN cs 0).map fun (n : Nat) => T.int (n : Int) else none
  | _ => none
mutual
/-- its ints are no longer than sixty figures -/
def T.okR : T → Bool
  | .non => true
  | .bl _ => true
  | .int i => decide (i.natAbs < 10 ^ 60)
  | .str _ => true
  | .tup ts => T.okRs ts
  | .lst ts => T.okRs ts
  | _ => false
def T.okRs : List T → Bool
  | [] => true
  | t :: ts => t.okR && T.okRs ts
end
mutual
def T.wgt : T → Nat
  | .int _ => 200
  | .str cs => cs.length
  | .tup ts => T.wgts ts
  | .lst ts => T.wgts ts
  | _ => 0
def T.wgts : List T → Nat
  | [] => 0
  | t :: ts => t.wgt + 1 + T.wgts ts
end
def shC (t : T) : List Nat := (PyData.shown (toD t)).cps.toList
def reprOk (t : T) : Bool := t.dat 20 && t.okR && decide (t.wgt ≤ 200000)
def reprT : List T → Option T
  | [t] => if reprOk t then some (.str (shC t)) else none
  | _ => none
def strT : List T → Option T
  | [.str cs] => some (.str cs)
  | _ => none
def absT : List T → Option T
  | [.int i] => some (.int (if i < 0 then -i else i))
  | _ => none
def divT : List T → Option T
  | [.int i, .int j] => if 0 < j ∧ j < 2 ^ 2000 then some (.tup [.int (i / j), .int (i % j)]) else none
  | _ => none
def isiTs (pg : Pg) (st : Sto) : List T → Option T
  | [x, c] => (isiT pg st x c).map .bl
  | _ => none
def blT (pg : Pg) (st : Sto) : B → List T → Option T
  | .len, ts => lenT st ts
  | .sum, ts => sumT st ts
  | .all, ts => allT st ts
  | .any, ts => anyT st ts
  | .maxL, ts => maxT st ts
  | .minL, ts => minT st ts
  | .max2, ts => max2T ts
  | .min2, ts => min2T ts
  | .tuple, ts => tupT st ts
  | .list, ts => listT st ts
  | .sorted, ts => sortedT st ts
  | .int, ts => intT ts
  | .int2, ts => int2T ts
  | .str, ts => strT ts
  | .abs, ts => absT ts
  | .divmod, ts => divT ts
  | .repr, ts => reprT ts
  | .isi, ts => isiTs pg st ts
def joinS (sep : List Nat) : List (List Nat) → List Nat
  | [] => []
  | [x] => x
  | x :: y :: r => x ++ sep ++ joinS sep (y :: r)
def putO (st : Sto) (n : Nat) (o : O) : Sto := st.set n (some o)
def ixJ (n : Nat) (i : Int) : Nat := if 0 ≤ i then i.toNat else (i + n).toNat
/-- a tuple's or a list's items -/
def seqOf (st : Sto) : T → Option (List T)
  | .tup ts => some ts
  | a => lstOf st a
/-- methods of built-in types -/
def mtT (st : Sto) : M → T → List T → R T
  | .append, .cell n, [t] => match cellO st n with
    | some (.lst ts) => if ts.length < big then .ok .non (putO st n (.lst (ts ++ [t]))) else .bad
    | _ => .bad
  | .extend, .cell n, [a] => match cellO st n, a with
    | some (.lst ts), .lst us => if ts.length + us.length ≤ big then .ok .non (putO st n (.lst (ts ++ us))) else .bad
    | _, _ => .bad
  | .pop, .cell n, [] => match cellO st n with
    | some (.lst ts) => match ts.getLast? with
      | some t => .ok t (putO st n (.lst ts.dropLast))
      | none => .bad
    | _ => .bad
  | .popAt, .cell n, [.int i] => match cellO st n with
    | some (.lst ts) => match atT ts i with
      | some t => .ok t (putO st n (.lst (ts.eraseIdx (ixJ ts.length i))))
      | none => .bad
    | _ => .bad
  | .lcount, a, [x] => match lstOf st a with
    | some ts => if flatT x = true ∧ ts.all flatT = true then .ok (.int ((ts.countP fun t => T.eqv t x) : Nat)) st else .bad
    | none => .bad
  | .lindex, a, [x] => match lstOf st a with
    | some ts => if flatT x = true ∧ ts.all flatT = true then (match ts.findIdx? (fun t => T.eqv t x) with
      | some j => .ok (.int (j : Nat)) st
      | none => .bad) else .bad
    | none => .bad
  | .get2, a, [k, d] => match dicOf st a, keyT k with
    | some (ks, ts), some k => .ok ((findK k ks ts).getD d) st
    | _, _ => .bad
  | .join, .str sep, [a] => match (seqOf st a).bind strsT with
    | some xs => if (xs.map List.length).sum + xs.length * sep.length ≤ big then .ok (.str (joinS sep xs)) st else .bad
    | none => .bad
  | _, _, _ => .bad

/-- the receiver's type, seen ahead of the arguments -/
def rcv (st : Sto) : M → T → Bool
  | .append, t => (lstOf st t).isSome
  | .extend, t => (lstOf st t).isSome
  | .pop, t => (lstOf st t).isSome
  | .popAt, t => (lstOf st t).isSome
  | .lcount, t => (lstOf st t).isSome
  | .lindex, t => (lstOf st t).isSome
  | .get2, t => (dicOf st t).isSome
  | .join, .str _ => true
  | _, _ => false
/-! ### the evaluator -/
section
variable (pg : Pg) (F : Nat → List T → Sto → R T)
def ofO (st : Sto) : Option T → R T
  | some t => .ok t st
  | none => .bad
/-- a new object: pure, or a cell -/
def mkO (k : Bool) (st : Sto) (o : O) : R T := if k then .ok (.cell st.length) (st ++ [some o]) else .ok o.pure st
def mkT (k : Bool) (st : Sto) : T → R T
  | .lst ts => mkO k st (.lst ts)
  | .dic ks ts => mkO k st (.dic ks ts)
  | _ => .bad
mutual
def bindG : G → T → Env → Option Env
  | .nm i, t, env => if i < env.length then some (env.set i (some t)) else none
  | .two a b, .tup [x, y], env => (bindG a x env).bind fun e => bindG b y e
  | .three a b c, .tup [x, y, z], env => (bindG a x env).bind fun e => (bindG b y e).bind fun e => bindG c z e
  | .four a b c d, .tup [x, y, z, u], env => (bindG a x env).bind fun e => (bindG b y e).bind fun e => (bindG c z e).bind fun e => bindG d u e
  | _, _, _ => none
end
def wipeE (env : Env) : List Nat → Env
  | [] => env
  | v :: vs => (wipeE env vs).set v none
def compGo (g : G) (own : List Nat) (env : Env) (cond : Env → Sto → R Bool) (elt : Env → Sto → R T) : List T → Sto → R (List T)
  | [], st => .ok [] st
  | t :: ts, st => match bindG g t (wipeE env own) with
    | none => .bad
    | some e => match cond e st with
      | .ok true st1 => match elt e st1 with
        | .ok y st2 => match compGo g own env cond elt ts st2 with
          | .ok ys st3 => .ok (y :: ys) st3
          | _ => .bad
        | _ => .bad
      | .ok false st1 => compGo g own env cond elt ts st1
      | _ => .bad
def comp2Go (g1 : G) (g2 : G) (own vs1 : List Nat) (env : Env) (it2 : Env → Sto → R (List T)) (cond : Env → Sto → R Bool) (elt : Env → Sto → R T) : List T → Sto → R (List T)
  | [], st => .ok [] st
  | t :: ts, st => match bindG g1 t (wipeE env own) with
    | none => .bad
    | some e => match it2 e st with
      | .ok us st1 => if us.length ≤ 4000 then (match compGo g2 vs1 e cond elt us st1 with
        | .ok ys st2 => match comp2Go g1 g2 own vs1 env it2 cond elt ts st2 with
          | .ok zs st3 => .ok (ys ++ zs) st3
          | _ => .bad
        | _ => .bad) else .bad
      | _ => .bad
def itemsOf (st : Sto) : T → Option (List T)
  | .tup ts => some ts
  | .lst ts => some ts
  | .str cs => some (cs.map fun c => .str [c])
  | .scr ns => some (ns.map .int)
  | _ => none
def rangeT (lo hi : Int) : List T := (List.range (hi - lo).toNat).map fun (k : Nat) => T.int (lo + (k : Int))
def listOnly (st : Sto) : T → Option (List T)
  | .lst ts => some ts
  | .scr ns => some (ns.map .int)
  | _ => none
def zipT : List T → List T → List T
  | x :: xs, y :: ys => .tup [x, y] :: zipT xs ys
  | _, _ => []
def zipOf (st : Sto) (x y : T) : Option (List T) := match itemsOf st x, itemsOf st y with
  | some ts, some us => some (zipT ts us)
  | _, _ => none
def findF (f : Nat) : List Nat → List T → Option T
  | g :: gs, t :: ts => if g = f then some t else findF f gs ts
  | _, _ => none
def lookE (c : Nat) (b : Ck) : List (Nat × Ck × Bool) → Option Bool
  | [] => none
  | (x, y, r) :: l => if x = c ∧ y = b then some r else lookE c b l
/-- isinstance(e, c), e the handled error -/
def isEs (pg : Pg) : List T → Option T
  | [.err c _ _, u] => match ckC u with
    | some b => (lookE c b pg.ekit).map .bl
    | none => none
  | _ => none
/-- its field -/
def fldEs (pg : Pg) (f : Nat) : T → Option T
  | .err c fs ts => if (c, f) ∈ pg.efs ∧ ∀ g ∈ fs, g = f then findF f fs ts else none
  | _ => none
/-- a table of code objects that bears this name is there -/
def hasTab (q : Nat) : Sto → Bool
  | [] => false
  | some (.tab r) :: st => decide (r = q) || hasTab q st
  | _ :: st => hasTab q st
def keysT (i : Int) : List T → Option (List Int)
  | [] => some []
  | .tup us :: ts => match atT us i with
    | some (.int k) => (keysT i ts).map fun ks => k :: ks
    | _ => none
  | _ :: _ => none
def bestG (k : Int) (t : T) : List Int → List T → T
  | k2 :: ks, t2 :: ts => if k2 < k then bestG k2 t2 ks ts else bestG k t ks ts
  | _, _ => t
/-- min(t, key=lambda x: x[i]) -/
def minKT (st : Sto) (t : T) (i : Int) : Option T := match lstOf st t with
  | some (x :: ts) => match keysT i (x :: ts) with
    | some (k :: ks) => some (bestG k x ks ts)
    | _ => none
  | _ => none
def enumT : Nat → List T → List T
  | _, [] => []
  | i, x :: xs => .tup [.int i, x] :: enumT (i + 1) xs
def instNew (c : Nat) (ts : List T) (st : Sto) : R T := match pg.cls c with
  | none => .bad
  | some cl => match F cl.init (.cell st.length :: ts) (st ++ [some (.ins c [] [])]) with
    | .ok .non st' => if cl.imm then (match cellO st' st.length with
        | some (.ins c' fs us) => if T.lts st.length us && okDrop st.length st st' then .ok (.ins c' fs us) (st'.take st.length) else .bad
        | _ => .bad) else .ok (.cell st.length) st'
    | .ok _ _ => .bad
    | .exc c us st' => if T.lts st.length us && okDrop st.length st st' then .exc c us (st'.take st.length) else .bad
    | .bad => .bad
def lookM (m : Nat) : List (Nat × Nat) → Option Nat
  | [] => none
  | (a, f) :: r => if a = m then some f else lookM m r
/-- an own special method of an instance -/
def ownF (st : Sto) (m : Nat) (x : T) : Option (Nat × Nat) := match insOf st x with
  | some (c, _, _) => if c ∈ pg.own then (pg.cls c).bind fun cl => (lookM m cl.ms).map fun f => (c, f) else none
  | none => none
/-- what stands at the right of ==, so that the left one's own method is asked first -/
def otherOk (st : Sto) (c : Nat) (y : T) : Bool := match ckOf st y with
  | some a => match lookC a (.cls c) pg.kit with
    | some r => decide (a = .cls c) || !r
    | none => false
  | none => false
def lenR : R T → R Int
  | .ok (.int n) st => if 0 ≤ n ∧ n < 2 ^ 63 then .ok n st else .bad
  | _ => .bad
def sp1R : O1 → R T → R T
  | .len, r => (lenR r).bind fun n st => .ok (.int n) st
  | .str, .ok (.str cs) st => .ok (.str cs) st
  | .str, _ => .bad
def eqR (n : Bool) : R T → R Bool
  | .ok (.bl b) st => .ok (b != n) st
  | _ => .bad
def eqOR (n : Bool) (m : Nat) (x y : T) (st : Sto) : R Bool := match ownF pg st m x with
  | some (c, f) => if otherOk pg st c y = true then eqR n (F f [x, y] st) else .bad
  | none => .bad
def lenOR (m : Nat) (x : T) (st : Sto) : R Int := match ownF pg st m x with
  | some (_, f) => lenR (F f [x] st)
  | none => .bad
def Sto.beq : Sto → Sto → Bool
  | [], [] => true
  | none :: s, none :: t => Sto.beq s t
  | some a :: s, some b :: t => O.beq a b && Sto.beq s t
  | _, _ => false
/-- instances in two lists, equal one by one (told by their own ==, that leaves all as it is) -/
def eqLs (m : Nat) : List T → List T → Sto → Bool
  | [], [], _ => true
  | x :: xs, y :: ys, st => (match ownF pg st m x with
    | some (c, f) => otherOk pg st c y && (ownF pg st m y).isSome && (match F f [x, y] st with
      | .ok (.bl true) st' => Sto.beq st' st
      | _ => false)
    | none => false) && eqLs m xs ys st
  | _, _, _ => false
def eqLR (n : Bool) (m : Nat) : T → T → Sto → R Bool
  | .lst xs, .lst ys, st => if eqLs pg F m xs ys st = true then .ok (!n) st else .bad
  | _, _, _ => .bad
def sp1OR (o : O1) (m : Nat) (x : T) (st : Sto) : R T := match ownF pg st m x with
  | some (_, f) => sp1R o (F f [x] st)
  | none => .bad
/-- by name: pm, the parameters' places -/
def byPm (n : Nat) (pm : List Nat) (ts : List T) : Option (List T) := if (decide (ts.length = n) && pm.all (fun i => decide (i < ts.length))) = true then some (pm.map fun i => ts.getD i .non) else none
def mkkR (c : Nat) (n : Nat) (pm : List Nat) (ts : List T) (st : Sto) : R T := match byPm n pm ts with
  | some us => instNew pg F c us st
  | none => .bad
/-- an int's text -/
def itoa (i : Int) : List Nat := (PySem.Str.ofString (toString i)).cps.toList
def fmT : T → Option T
  | .str y => if y.length ≤ big then some (.str y) else none
  | .int i => if i.natAbs < 10 ^ 60 then some (.str (itoa i)) else none
  | _ => none
def omkR (m f : Nat) (n : Nat) (pm : List Nat) (x : T) (st : Sto) (go : Sto → R (List T)) : R T := match insOf st x with
  | some (c, fs, _) => match pg.cls c with
    | some cl => match lookM m cl.ms with
      | some f' => if f' = f ∧ m ∉ cl.fs ∧ (∀ g ∈ fs, g ∈ cl.fs) then (go st).bind fun ts st => (match byPm n pm ts with
        | some us => F f (x :: us) st
        | none => .bad) else .bad
      | none => .bad
    | none => .bad
  | none => .bad
mutual
def ev : X → Env → Sto → R T
  | .v i, env, st => match env[i]? with
    | some (some t) => .ok t st
    | _ => .bad
  | .c t, _, st => .ok t st
  | .gl x, _, st => .ok (.gl x) st
  | .gc _ t, _, st => .ok t st
  | .bty _ n, _, st => .ok (.ty n) st
  | .bin op a b, env, st => (ev a env st).bind fun x st => (ev b env st).bind fun y st => ofO st (binV op x y)
  | .cmp op a b, env, st => (ev a env st).bind fun x st => (ev b env st).bind fun y st => ofO st ((cmpT st op x y).map .bl)
  | .chn o p a b c, env, st => (ev a env st).bind fun x st => (ev b env st).bind fun y st => match cmpT st o x y with
    | some true => (ev c env st).bind fun z st => ofO st ((cmpT st p y z).map .bl)
    | some false => .ok (.bl false) st
    | none => .bad
  | .and2 a b, env, st => (ev a env st).bind fun x st => match truV st x with
    | some true => ev b env st
    | some false => .ok x st
    | none => .bad
  | .or2 a b, env, st => (ev a env st).bind fun x st => match truV st x with
    | some true => .ok x st
    | some false => ev b env st
    | none => .bad
  | .one a, env, st => ev a env st
  | .not1 a, env, st => (ev a env st).bind fun x st => match truV st x with
    | some b => .ok (.bl (!b)) st
    | none => .bad
  | .neg a, env, st => (ev a env st).bind fun x st => match x with
    | .int i => .ok (.int (-i)) st
    | _ => .bad
  | .ite c a b, env, st => (evT c env st).bind fun x st => if x then ev a env st else ev b env st
  | .tup es, env, st => (evs es env st).bind fun ts st => if ts.length ≤ big then .ok (.tup ts) st else .bad
  | .lst k es, env, st => (evs es env st).bind fun ts st => if ts.length ≤ big then mkO k st (.lst ts) else .bad
  | .dnew k, _, st => mkO k st (.dic [] [])
  | .disp _ _ _, _, _ => .bad
  | .cl f es, env, st => (evs es env st).bind fun ts st => F f ts st
  | .clk f pm es, env, st => (evs es env st).bind fun ts st => if (decide (ts.length = es.len) && pm.all (fun i => decide (i < ts.length))) = true then F f (pm.map fun i => ts.getD i .non) st else .bad
  | .bl b es, env, st => (evs es env st).bind fun ts st => ofO st (blT pg st b ts)
  | .mt m o es, env, st => (ev o env st).bind fun x st => if rcv st m x then (evs es env st).bind fun ts st => mtT st m x ts else .bad
  | .om m o es, env, st => (ev o env st).bind fun x st => match insOf st x with
    | some (c, fs, _) => match pg.cls c with
      | some cl => match lookM m cl.ms with
        | some f => if m ∉ cl.fs ∧ (∀ g ∈ fs, g ∈ cl.fs) then (evs es env st).bind fun ts st => F f (x :: ts) st else .bad
        | none => .bad
      | none => .bad
    | none => .bad
  | .mk c es, env, st => (evs es env st).bind fun ts st => instNew pg F c ts st
  | .ix a b, env, st => (ev a env st).bind fun x st => (ev b env st).bind fun y st => ofO st (ixT st x y)
  | .sl a lo hi, env, st => (ev a env st).bind fun x st => (evO lo env st).bind fun l st => (evO hi env st).bind fun h st => ofO st (slT st x l h)
  | .fld a f, env, st => (ev a env st).bind fun x st => match insOf st x with
    | some (c, fs, ts) => match pg.cls c with
      | some cl => if f ∈ cl.fs ∧ (∀ g ∈ fs, g ∈ cl.fs) then ofO st (findF f fs ts) else .bad
      | none => .bad
    | none => .bad
  | .comp k e g it own cs, env, st => (evI it env st).bind fun ts st => if ts.length ≤ 1000000 then (match compGo g own env (fun env st => evA cs env st) (fun env st => ev e env st) ts st with
    | .ok ys st => mkO k st (.lst ys)
    | _ => .bad) else .bad
  | .comp2 e g1 i1 g2 i2 own cs, env, st => (evI i1 env st).bind fun ts st => if ts.length ≤ 4000 then (match comp2Go g1 g2 own (gS g2) env (fun env st => evI i2 env st) (fun env st => evA cs env st) (fun env st => ev e env st) ts st with
    | .ok ys st => .ok (.lst ys) st
    | _ => .bad) else .bad
  | .dmk k a, env, st => (ev a env st).bind fun x st => match (lstOf st x).bind pairsT with
    | some ps => if ps.length ≤ big then mkO k st (.dic (dicP ps).1 (dicP ps).2) else .bad
    | none => .bad
  | .isE a b, env, st => (ev a env st).bind fun t st => (ev b env st).bind fun u st => ofO st (isEs pg [t, u])
  | .fldE a f, env, st => (ev a env st).bind fun t st => ofO st (fldEs pg f t)
  | .sp1 o m a, env, st => (ev a env st).bind fun x st => sp1OR pg F o m x st
  | .eqO n m a b, env, st => (ev a env st).bind fun x st => (ev b env st).bind fun y st => (eqOR pg F n m x y st).bind fun c st => .ok (.bl c) st
  | .trO _ _, _, _ => .bad
  | .eqL n m a b, env, st => (ev a env st).bind fun x st => (ev b env st).bind fun y st => (eqLR pg F n m x y st).bind fun c st => .ok (.bl c) st
  | .fs es, env, st => evJ es [] env st
  | .fm a, env, st => (ev a env st).bind fun x st => ofO st (fmT x)
  | .mkk c pm es, env, st => (evs es env st).bind fun ts st => mkkR pg F c es.len pm ts st
  | .omk m f pm o es, env, st => (ev o env st).bind fun x st => omkR pg F m f es.len pm x st (fun st => evs es env st)
  | .minK q a i, env, st => (ev a env st).bind fun t st => if hasTab q st then ofO st (minKT st t i) else .bad
  | .dcomp k ek e g it own cs, env, st => (evI it env st).bind fun ts st => if ts.length ≤ 1000000 then (match compGo g own env (fun env st => evA cs env st) (fun env st => (ev ek env st).bind fun y st => (ev e env st).bind fun z st => if (keyT y).isSome = true then .ok (.tup [y, z]) st else .bad) ts st with
    | .ok ys st => (match pairsT ys with
      | some ps => mkO k st (.dic (dicP ps).1 (dicP ps).2)
      | none => .bad)
    | _ => .bad) else .bad
  | .rng1 _, _, _ => .bad
  | .rng2 _ _, _, _ => .bad
  | .enum _, _, _ => .bad
  | .zip _ _, _, _ => .bad
  | .tr _, _, _ => .bad
  | .it _, _, _ => .bad
/-- the parts of an f-string -/
def evJ : Xs → List Nat → Env → Sto → R T
  | .nil, acc, _, st => .ok (.str acc) st
  | .cons a r, acc, env, st => (ev a env st).bind fun x st => match x with
    | .str y => if acc.length + y.length ≤ big then evJ r (acc ++ y) env st else .bad
    | _ => .bad
def evs : Xs → Env → Sto → R (List T)
  | .nil, _, st => .ok [] st
  | .cons a r, env, st => (ev a env st).bind fun x st => (evs r env st).bind fun xs st => .ok (x :: xs) st
/-- a slice's end: none or a number -/
def evO : Xs → Env → Sto → R (Option Int)
  | .nil, _, st => .ok none st
  | .cons a .nil, env, st => (ev a env st).bind fun x st => match x with
    | .int i => .ok (some i) st
    | _ => .bad
  | .cons _ (.cons _ _), _, _ => .bad
/-- a comprehension's tests: none or one -/
def evA : Xs → Env → Sto → R Bool
  | .nil, _, st => .ok true st
  | .cons a .nil, env, st => evT a env st
  | .cons _ (.cons _ _), _, _ => .bad
def evT : X → Env → Sto → R Bool
  | .and2 a b, env, st => (evT a env st).bind fun x st => if x then evT b env st else .ok false st
  | .or2 a b, env, st => (evT a env st).bind fun x st => if x then .ok true st else evT b env st
  | .one a, env, st => evT a env st
  | .not1 a, env, st => (evT a env st).bind fun x st => .ok (!x) st
  | .cmp op a b, env, st => (ev a env st).bind fun x st => (ev b env st).bind fun y st => match cmpT st op x y with
    | some c => .ok c st
    | none => .bad
  | .chn o p a b c, env, st => (ev a env st).bind fun x st => (ev b env st).bind fun y st => match cmpT st o x y with
    | some true => (ev c env st).bind fun z st => match cmpT st p y z with
      | some d => .ok d st
      | none => .bad
    | some false => .ok false st
    | none => .bad
  | .tr a, env, st => (ev a env st).bind fun x st => match truV st x with
    | some b => .ok b st
    | none => .bad
  | .trO m a, env, st => (ev a env st).bind fun x st => (lenOR pg F m x st).bind fun n st => .ok (decide (n ≠ 0)) st
  | .eqO n m a b, env, st => (ev a env st).bind fun x st => (ev b env st).bind fun y st => eqOR pg F n m x y st
  | .eqL n m a b, env, st => (ev a env st).bind fun x st => (ev b env st).bind fun y st => eqLR pg F n m x y st
  | _, _, _ => .bad
def evI : X → Env → Sto → R (List T)
  | .rng1 a, env, st => (ev a env st).bind fun x st => match x with
    | .int j => if -(2 ^ 62) ≤ j ∧ j < 2 ^ 62 then .ok (rangeT 0 j) st else .bad
    | _ => .bad
  | .rng2 a b, env, st => (ev a env st).bind fun x st => (ev b env st).bind fun y st => match x, y with
    | .int i, .int j => if -(2 ^ 62) ≤ i ∧ i < 2 ^ 62 ∧ -(2 ^ 62) ≤ j ∧ j < 2 ^ 62 then .ok (rangeT i j) st else .bad
    | _, _ => .bad
  | .enum a, env, st => (ev a env st).bind fun x st => match itemsOf st x with
    | some ts => .ok (enumT 0 ts) st
    | none => .bad
  | .zip a b, env, st => (ev a env st).bind fun x st => (ev b env st).bind fun y st => match zipOf st x y with
    | some ts => .ok ts st
    | none => .bad
  | .it a, env, st => (ev a env st).bind fun x st => match itemsOf st x with
    | some ts => .ok ts st
    | none => .bad
  | _, _, _ => .bad
end
example (t : T) (env : Env) (st : Sto) : ev pg F (.c t) env st = .ok t st := rfl
example (t : T) (env : Env) (st : Sto) : evs pg F (.cons (.c t) .nil) env st = .ok [t] st := rfl
end
end Mu
end
section
set_option Elab.async false
set_option linter.all false
set_option maxRecDepth 100000
set_option maxHeartbeats 4000010
/-! Mu, part 3: what is wanted behind an evaluation; operators. -/
namespace Mu
open PySem
open PySem.Spec
open PyProof.Rows
open L2

/-- an error of ours: its class, its own dict -/
def RepX (w : Wd) (z : Z) (c : Nat) (ts : List T) (cls : Value) (d : Option Addr) (H : Hp) : Prop :=
  cls = .ref (w.ad c) ∧ ∃ dd kvs, d = some dd ∧ H dd = some (.xd kvs) ∧ kvs.map (·.1) = (w.xf c).map w.nm ∧ Reps w z.as z.hm ts (kvs.map (·.2))
def PostG {α β : Type} (rel : Z → α → β → Prop) (w : Wd) (z : Z) (H : Hp) (r : R α) (Q : β → Hp → Prop) (E : XK) : Prop :=
  match r with
  | .ok t st => ∀ z' H' v, z'.st = st → Go z H z' H' → StRel w z' H' → rel z' t v → Q v H'
  | .exc c ts st => ∀ z' H' cls d, z'.st = st → Go z H z' H' → StRel w z' H' → RepX w z' c ts cls d H' → E cls d H'
  | .bad => False
abbrev rT (w : Wd) : Z → T → V → Prop := fun z t v => Rep w z.as z.hm t v
abbrev rTs (w : Wd) : Z → List T → List V → Prop := fun z t v => Reps w z.as z.hm t v
abbrev rB : Z → Bool → Bool → Prop := fun _ b c => c = b
section
variable {w : Wd} {z z1 : Z} {H H1 : Hp} {α β γ δ : Type} {rel : Z → α → β → Prop} {rel2 : Z → γ → δ → Prop} {r : R α} {Q Q' : β → Hp → Prop} {E E' : XK}
theorem PostG.go (p : PostG rel w z H r Q E) (g : Go z H z1 H1) : PostG rel w z1 H1 r Q E := by
  cases r with
  | ok t st => exact fun z' H' v e g' s r => p z' H' v e (g.trans g') s r
  | exc c ts st => exact fun z' H' cls d e g' s r => p z' H' cls d e (g.trans g') s r
  | bad => exact p
theorem PostG.imp (p : PostG rel w z H r Q E) (h : ∀ v H', Q v H' → Q' v H') (hE : ∀ c d H', E c d H' → E' c d H' := by exact fun _ _ _ h => h) : PostG rel w z H r Q' E' := by
  cases r with
  | ok t st => exact fun z' H' v e g' s r => h _ _ (p z' H' v e g' s r)
  | exc c ts st => exact fun z' H' cls d e g' s r => hE _ _ _ (p z' H' cls d e g' s r)
  | bad => exact p
theorem PostG.bind {k : α → Sto → R γ} {Q2 : δ → Hp → Prop} (p : PostG rel2 w z H (r.bind k) Q2 E) :
    PostG rel w z H r (fun v H1 => ∃ z1 t, Go z H z1 H1 ∧ StRel w z1 H1 ∧ rel z1 t v ∧ PostG rel2 w z1 H1 (k t z1.st) Q2 E) E := by
  cases r with
  | ok t st =>
    intro z' H' v e g s r
    subst e
    exact ⟨z', t, g, s, r, PostG.go (r := k t z'.st) p g⟩
  | exc c ts st => exact p
  | bad => exact p
theorem PostG.here {t : α} {v : β} (p : PostG rel w z H (.ok t z.st) Q E) (s : StRel w z H) (r : rel z t v) : Q v H := p z H v rfl Go.refl s r
theorem PostG.at {t : α} {v : β} (p : PostG rel w z H (.ok t z1.st) Q E) (g : Go z H z1 H1) (s : StRel w z1 H1) (r : rel z1 t v) : Q v H1 := p z1 H1 v rfl g s r
end

/-! ### operators -/
def rBin (w : Wd) (op : Operator) : R2 := fun x y H Q => ∃ z t u E, StRel w z H ∧ Rep w z.as z.hm t x ∧ Rep w z.as z.hm u y ∧ PostG (rT w) w z H (ofO z.st (binV op t u)) Q E
theorem Rep.int_inv {w : Wd} {as : List Addr} {H : Hp} {i : Int} {v : V} (h : Rep w as H (.int i) v) : v = .int i := by unfold Rep at h; exact h
theorem Rep.str_inv {w : Wd} {as : List Addr} {H : Hp} {i : List Nat} {v : V} (h : Rep w as H (.str i) v) : v = .str ⟨i.toArray⟩ := by unfold Rep at h; exact h
theorem Rep.bl_inv {w : Wd} {as : List Addr} {H : Hp} {i : Bool} {v : V} (h : Rep w as H (.bl i) v) : v = .bl i := by unfold Rep at h; exact h
theorem Rep.non_inv {w : Wd} {as : List Addr} {H : Hp} {v : V} (h : Rep w as H .non v) : v = .non := by unfold Rep at h; exact h
theorem Rep.tup_inv {w : Wd} {as : List Addr} {H : Hp} {ts : List T} {v : V} (h : Rep w as H (.tup ts) v) : ∃ a vs, v = .ref a ∧ SqT w.K H a vs ∧ Reps w as H ts vs := by unfold Rep at h; exact h
theorem Rep.lst_inv {w : Wd} {as : List Addr} {H : Hp} {ts : List T} {v : V} (h : Rep w as H (.lst ts) v) : ∃ a vs, v = .ref a ∧ H a = some (.lst vs) ∧ Reps w as H ts vs := by unfold Rep at h; exact h
theorem Rep.of_int {w : Wd} {as : List Addr} {H : Hp} (i : Int) : Rep w as H (.int i) (.int i) := by unfold Rep; rfl
theorem Rep.of_bl {w : Wd} {as : List Addr} {H : Hp} (i : Bool) : Rep w as H (.bl i) (.bl i) := by unfold Rep; rfl
theorem Rep.of_non {w : Wd} {as : List Addr} {H : Hp} : Rep w as H .non .non := by unfold Rep; rfl
theorem Rep.of_str {w : Wd} {as : List Addr} {H : Hp} (i : List Nat) : Rep w as H (.str i) (.str ⟨i.toArray⟩) := by unfold Rep; rfl
theorem big_line : big = sizeLine := by rw [sizeLine_eq]; rfl
theorem str_app (a b : List Nat) : (⟨a.toArray⟩ : Str) ++ (⟨b.toArray⟩ : Str) = ⟨(a ++ b).toArray⟩ := by
  show Str.mk (a.toArray ++ b.toArray) = _
  simp
theorem str_len (a : List Nat) : (⟨a.toArray⟩ : Str).length = a.length := by
  show a.toArray.size = _
  simp
theorem log2_2000 {j : Int} (h0 : 0 < j) (h : j < 2 ^ 2000) : CDivW 0 j := wide_div (b := 2000) h0 (by
  have : (j.natAbs : Int) < ((2 ^ 2000 : Nat) : Int) := by
    rw [Int.natAbs_of_nonneg (by omega)]
    exact_mod_cast h
  exact_mod_cast this) (by decide) (by decide)
section
variable {w : Wd} {z : Z} {H : Hp} {Q : VK} {E : XK}
/-- a new pure list, tuple -/
theorem post_lst {ts : List T} {vs : List V} (p : PostG (rT w) w z H (ofO z.st (some (.lst ts))) Q E) (s : StRel w z H) (r : Reps w z.as z.hm ts vs) : ∀ a, H a = none → Q (.ref a) (upd H a (.lst vs)) := fun a ha => by
  obtain ⟨s', g⟩ := s.laid (o := .lst vs) ha
  refine PostG.at (z1 := ⟨z.as, upd z.hm a (.lst vs), z.st⟩) p g s' ?_
  show Rep w _ _ (.lst ts) (.ref a)
  unfold Rep
  exact ⟨a, vs, rfl, upd_same, g.reps r⟩
theorem post_tup {ts : List T} {vs : List V} (p : PostG (rT w) w z H (ofO z.st (some (.tup ts))) Q E) (s : StRel w z H) (r : Reps w z.as z.hm ts vs) : ∀ a, H a = none → Q (.ref a) (upd H a (.tup vs)) := fun a ha => by
  obtain ⟨s', g⟩ := s.laid (o := .tup vs) ha
  refine PostG.at (z1 := ⟨z.as, upd z.hm a (.tup vs), z.st⟩) p g s' ?_
  show Rep w _ _ (.tup ts) (.ref a)
  unfold Rep
  exact ⟨a, vs, rfl, SqT.of upd_same, g.reps r⟩
/-- a tuple that is there -/
theorem post_tupR {ts : List T} {a : Addr} {vs : List V} (p : PostG (rT w) w z H (ofO z.st (some (.tup ts))) Q E) (s : StRel w z H) (q : SqT w.K z.hm a vs) (r : Reps w z.as z.hm ts vs) : Q (.ref a) H := by
  refine PostG.here p s ?_
  show Rep w _ _ (.tup ts) (.ref a)
  unfold Rep
  exact ⟨a, vs, rfl, q, r⟩
theorem post_int {i : Int} (p : PostG (rT w) w z H (ofO z.st (some (.int i))) Q E) (s : StRel w z H) : Q (.int i) H := PostG.here p s (.of_int i)
theorem post_bl {i : Bool} (p : PostG (rT w) w z H (ofO z.st (some (.bl i))) Q E) (s : StRel w z H) : Q (.bl i) H := PostG.here p s (.of_bl i)
theorem post_str {i : List Nat} (p : PostG (rT w) w z H (ofO z.st (some (.str i))) Q E) (s : StRel w z H) : Q (.str ⟨i.toArray⟩) H := PostG.here p s (.of_str i)
end
theorem ite_some {α : Type} {c : Prop} [Decidable c] {a : α} {P : Option α → Prop} (h : P (if c then some a else none)) (hn : ¬ P none) : c ∧ P (some a) := by
  by_cases hc : c
  · rw [if_pos hc] at h
    exact ⟨hc, h⟩
  · rw [if_neg hc] at h
    exact absurd h hn
theorem post_if {w : Wd} {z : Z} {H : Hp} {Q : VK} {E : XK} {c : Prop} [Decidable c] {a : T} (p : PostG (rT w) w z H (ofO z.st (if c then some a else none)) Q E) : c ∧ PostG (rT w) w z H (ofO z.st (some a)) Q E :=
  ite_some (P := fun o => PostG (rT w) w z H (ofO z.st o) Q E) p (fun h => h)
theorem mulOk_C {i j : Int} (h : mulOk i j = true) : CMul i j := by
  unfold mulOk at h
  rw [Bool.or_eq_true, Bool.and_eq_true, Bool.and_eq_true, decide_eq_true_eq,
          decide_eq_true_eq, decide_eq_true_eq, decide_eq_true_eq] at h
  exact h
theorem op_bin {X : Cx} {w : Wd} (hK : X.K = w.K) (op : Operator) : OpR X (binaryOp op) (rBin w op) := by
  intro pins s σ H x y v u Q I rx ry ⟨z, t, t2, E, S, r1, r2, p⟩
  unfold binV at p
  split at p
  · cases r1.int_inv; cases r2.int_inv
    exact op_add pins s σ H _ _ v u Q I rx ry ⟨_, _, rfl, rfl, post_int p S⟩
  · cases r1.int_inv; cases r2.int_inv
    exact op_sub pins s σ H _ _ v u Q I rx ry ⟨_, _, rfl, rfl, post_int p S⟩
  · cases r1.int_inv; cases r2.int_inv
    obtain ⟨c, p⟩ := post_if p
    exact op_mul pins s σ H _ _ v u Q I rx ry ⟨_, _, rfl, rfl, mulOk_C c, post_int p S⟩
  · cases r1.int_inv; cases r2.int_inv
    obtain ⟨c, p⟩ := post_if p
    exact op_fdivW pins s σ H _ _ v u Q I rx ry ⟨_, _, rfl, rfl, log2_2000 c.1 c.2, post_int p S⟩
  · cases r1.int_inv; cases r2.int_inv
    obtain ⟨c, p⟩ := post_if p
    exact op_mod pins s σ H _ _ v u Q I rx ry ⟨_, _, rfl, rfl, c, post_int p S⟩
  · cases r1.int_inv; cases r2.int_inv
    obtain ⟨c, p⟩ := post_if p
    refine op_pow pins s σ H _ _ v u Q I rx ry ⟨_, _, rfl, rfl, ⟨c.1, by omega, ?_⟩, post_int p S⟩
    have h1 := c.2.2.1
    have h2 := c.2.2.2
    unfold mid at h1 h2
    omega
  · cases r1.int_inv; cases r2.int_inv
    obtain ⟨c, p⟩ := post_if p
    refine op_shl pins s σ H _ _ v u Q I rx ry ⟨_, _, rfl, rfl, ⟨c.1, by omega, ?_⟩, post_int p S⟩
    have h1 := c.2.2.1
    have h2 := c.2.2.2
    unfold mid at h1 h2
    omega
  · cases r1.int_inv; cases r2.int_inv
    exact op_and pins s σ H _ _ v u Q I rx ry ⟨_, _, rfl, rfl, post_int p S⟩
  · cases r1.str_inv; cases r2.str_inv
    obtain ⟨c, p⟩ := post_if p
    refine op_add_str pins s σ H _ _ v u Q I rx ry ⟨_, _, rfl, rfl, by rw [str_len, str_len, ← big_line]; exact c, ?_⟩
    rw [str_app]
    exact post_str p S
  · obtain ⟨a, vs, e1, q1, k1⟩ := r1.lst_inv
    obtain ⟨b, ws, e2, q2, k2⟩ := r2.lst_inv
    subst e1; subst e2
    obtain ⟨c, p⟩ := post_if p
    exact op_cat pins s σ H _ _ v u Q I rx ry ⟨a, b, vs, ws, rfl, rfl, S.sub _ _ q1, S.sub _ _ q2, by rw [← k1.length, ← k2.length, ← big_line]; exact c, post_lst p S (k1.append k2)⟩
  · obtain ⟨a, vs, e1, q1, k1⟩ := r1.tup_inv
    obtain ⟨b, ws, e2, q2, k2⟩ := r2.tup_inv
    subst e1; subst e2
    obtain ⟨c, p⟩ := post_if p
    refine op_catA pins s σ H _ _ v u Q I rx ry ⟨a, b, vs, ws, rfl, rfl, by rw [hK]; exact sqT_mono S.sub q1, by rw [hK]; exact sqT_mono S.sub q2, by rw [← k1.length, ← k2.length, ← big_line]; exact c, fun e => ?_, fun _ e => ?_, fun _ _ => post_tup p S (k1.append k2)⟩
    · refine post_tupR p S q2 ?_
      have := k1.append k2
      rw [e, List.nil_append] at this
      exact this
    · refine post_tupR p S q1 ?_
      have := k1.append k2
      rw [e, List.append_nil] at this
      exact this
  · cases r2.int_inv
    obtain ⟨a, vs, e1, q1, k1⟩ := r1.lst_inv
    subst e1
    obtain ⟨c, p⟩ := post_if p
    exact op_rep pins s σ H _ _ v u Q I rx ry ⟨a, _, vs, rfl, rfl, S.sub _ _ q1, c.1, c.2.1, by rw [← k1.length, ← big_line]; exact c.2.2, post_lst p S (k1.rep _)⟩
  · exact p.elim

/-! ### data, comparisons -/
mutual
theorem dat_lay : ∀ (n : Nat) (t : T), t.dat n = true → (toD t).canLay0 = true ∧ (toD t).depth ≤ n
  | _, .non, _ => by simp [toD, PyData.canLay0, PyData.depth]
  | _, .bl _, _ => by simp [toD, PyData.canLay0, PyData.depth]
  | _, .int _, _ => by simp [toD, PyData.canLay0, PyData.depth]
  | _, .str cs, h => by
    simp only [toD, PyData.canLay0, PyData.depth, Nat.zero_le, and_true]
    simp only [T.dat] at h
    simp only [PyData.strOk]
    simpa using h
  | 0, .tup ts, h => by simp [T.dat] at h
  | 0, .lst ts, h => by simp [T.dat] at h
  | n + 1, .tup ts, h => by
    simp only [T.dat] at h
    obtain ⟨h1, h2⟩ := dats_lay n ts h
    simp only [toD, PyData.canLay0, PyData.depth]
    exact ⟨h1, by omega⟩
  | n + 1, .lst ts, h => by
    simp only [T.dat] at h
    obtain ⟨h1, h2⟩ := dats_lay n ts h
    simp only [toD, PyData.canLay0, PyData.depth]
    exact ⟨h1, by omega⟩
  | _, .ty _, h => by simp [T.dat] at h
  | _, .gl _, h => by simp [T.dat] at h
  | _, .dic _ _, h => by simp [T.dat] at h
  | _, .ins _ _ _, h => by simp [T.dat] at h
  | _, .scr _, h => by simp [T.dat] at h
  | _, .cell _, h => by simp [T.dat] at h
theorem dats_lay : ∀ (n : Nat) (ts : List T), T.dats n ts = true → PyData.canLayAll0 (toDs ts) = true ∧ PyData.depthAll (toDs ts) ≤ n
  | _, [], _ => by simp [toDs, PyData.canLayAll0, PyData.depthAll]
  | n, t :: ts, h => by
    simp only [T.dats, Bool.and_eq_true] at h
    obtain ⟨h1, h2⟩ := dat_lay n t h.1
    obtain ⟨h3, h4⟩ := dats_lay n ts h.2
    simp only [toDs, PyData.canLayAll0, PyData.depthAll, h1, h3]
    exact ⟨rfl, by omega⟩
end
theorem dat_shaped {t : T} (h : t.dat 60 = true) : SeqAt.shaped (toD t) = true := by
  obtain ⟨h1, h2⟩ := dat_lay 60 t h
  simp only [SeqAt.shaped, h1, Bool.true_and, decide_eq_true_eq]
  omega
theorem dats_shaped {ts : List T} (h : T.dats 60 ts = true) : SeqAt.shaped (.list (toDs ts)) = true := by
  obtain ⟨h1, h2⟩ := dats_lay 60 ts h
  have e : (PyData.list (toDs ts)).depth = PyData.depthAll (toDs ts) + 1 := by simp [PyData.depth]
  have e2 : (PyData.list (toDs ts)).canLay0 = true := by simp [PyData.canLay0, h1]
  unfold SeqAt.shaped
  rw [e2, e, Bool.true_and, decide_eq_true_eq]
  omega
theorem mk_inj {x y : List Nat} : ((⟨x.toArray⟩ : Str) == ⟨y.toArray⟩) = decide (x = y) := by
  by_cases e : x = y
  · subst e; simp
  · rw [decide_eq_false e]
    refine beq_eq_false_iff_ne.mpr fun q => e ?_
    have : x.toArray = y.toArray := congrArg Str.cps q
    simpa using this
mutual
theorem eqv_toD : ∀ (n m : Nat) (a b : T), a.dat n = true → b.dat m = true → PyData.eqv (toD a) (toD b) = T.eqv a b := fun n m a b ha hb => by
  cases a <;> (try (simp [T.dat] at ha; done)) <;> cases b <;> (try (simp [T.dat] at hb; done)) <;> (try (simp [toD, PyData.eqv, T.eqv]; done))
  · rename_i x y
    simp only [toD, PyData.eqv, T.eqv]
    rw [Bool.beq_eq_decide_eq]
  · rename_i x y
    simp only [toD, PyData.eqv, T.eqv]
    rw [Bool.beq_eq_decide_eq]
  · rename_i x y
    simp only [toD, PyData.eqv, T.eqv]
    rw [Bool.beq_eq_decide_eq]
  · rename_i x y
    simp only [toD, PyData.eqv, T.eqv]
    exact mk_inj
  · rename_i x y
    cases n with
    | zero => simp [T.dat] at ha
    | succ n =>
      cases m with
      | zero => simp [T.dat] at hb
      | succ m =>
        simp only [toD, PyData.eqv, T.eqv]
        exact eqvs_toD n m x y (by simpa [T.dat] using ha) (by simpa [T.dat] using hb)
  · rename_i x y
    cases n with
    | zero => simp [T.dat] at ha
    | succ n =>
      cases m with
      | zero => simp [T.dat] at hb
      | succ m =>
        simp only [toD, PyData.eqv, T.eqv]
        exact eqvs_toD n m x y (by simpa [T.dat] using ha) (by simpa [T.dat] using hb)
theorem eqvs_toD : ∀ (n m : Nat) (a b : List T), T.dats n a = true → T.dats m b = true → PyData.eqvAll (toDs a) (toDs b) = T.eqvs a b
  | _, _, [], [], _, _ => by simp [toDs, PyData.eqvAll, T.eqvs]
  | _, _, [], _ :: _, _, _ => by simp [toDs, PyData.eqvAll, T.eqvs]
  | _, _, _ :: _, [], _, _ => by simp [toDs, PyData.eqvAll, T.eqvs]
  | n, m, a :: as, b :: bs, ha, hb => by
    simp only [T.dats, Bool.and_eq_true] at ha hb
    simp only [toDs, PyData.eqvAll, T.eqvs]
    rw [eqv_toD n m a b ha.1 hb.1, eqvs_toD n m as bs ha.2 hb.2]
end
mutual
theorem Rep.dp {w : Wd} {as : List Addr} {H H' : Hp} (hs : ∀ a o, H a = some o → H' a = some o) : ∀ (n : Nat) (t : T) (v : V), t.dat n = true → Rep w as H t v → Dp w.K H' v (toD t)
  | _, .non, _, _, r => by rw [r.non_inv, show toD .non = .none by simp [toD]]; exact .non
  | _, .bl b, _, _, r => by rw [r.bl_inv, toD]; exact .bl b
  | _, .int i, _, _, r => by rw [r.int_inv, toD]; exact .int i
  | _, .str cs, _, _, r => by rw [r.str_inv, toD]; exact .str _
  | 0, .tup ts, _, h, _ => by simp [T.dat] at h
  | 0, .lst ts, _, h, _ => by simp [T.dat] at h
  | n + 1, .tup ts, _, h, r => by
    obtain ⟨a, vs, e, q, k⟩ := r.tup_inv
    rw [e, toD]
    exact .tup (sqT_mono hs q) (Reps.dp hs n ts vs (by simpa [T.dat] using h) k)
  | n + 1, .lst ts, _, h, r => by
    obtain ⟨a, vs, e, q, k⟩ := r.lst_inv
    rw [e, toD]
    exact .lst (SqL.of (hs _ _ q)) (Reps.dp hs n ts vs (by simpa [T.dat] using h) k)
  | _, .ty _, _, h, _ => by simp [T.dat] at h
  | _, .gl _, _, h, _ => by simp [T.dat] at h
  | _, .dic _ _, _, h, _ => by simp [T.dat] at h
  | _, .ins _ _ _, _, h, _ => by simp [T.dat] at h
  | _, .scr _, _, h, _ => by simp [T.dat] at h
  | _, .cell _, _, h, _ => by simp [T.dat] at h
theorem Reps.dp {w : Wd} {as : List Addr} {H H' : Hp} (hs : ∀ a o, H a = some o → H' a = some o) : ∀ (n : Nat) (ts : List T) (vs : List V), T.dats n ts = true → Reps w as H ts vs → DpAll w.K H' vs (toDs ts)
  | _, [], _, _, r => by rw [r.nil_inv, toDs]; exact .nil
  | n, t :: ts, _, h, r => by
    simp only [T.dats, Bool.and_eq_true] at h
    obtain ⟨v, vs, e, r1, r2⟩ := r.cons_inv
    rw [e, toDs]
    exact .cons (Rep.dp hs n t v h.1 r1) (Reps.dp hs n ts vs h.2 r2)
end
theorem eqT_some {a b : T} {c : Bool} (h : eqT a b = some c) : a.dat 60 = true ∧ b.dat 60 = true ∧ c = PyData.eqv (toD a) (toD b) := by
  unfold eqT at h
  by_cases q : (a.dat 60 && b.dat 60) = true
  · rw [if_pos q] at h
    rw [Bool.and_eq_true] at q
    exact ⟨q.1, q.2, by rw [eqv_toD 60 60 a b q.1 q.2]; exact (Option.some.inj h).symm⟩
  · rw [if_neg q] at h
    cases h
theorem inT_some {x : T} : ∀ {ts : List T} {c : Bool}, inT x ts = some c → T.dats 60 ts = true ∧ x.dat 60 = true ∧ c = (toDs ts).any fun z => PyData.eqv z (toD x)
  | [], c, h => by
    simp [inT] at h
    exact ⟨rfl, h.1, by rw [h.2]; rfl⟩
  | t :: ts, c, h => by
    simp only [inT] at h
    cases e : eqT t x with
    | none =>
            rw [e] at h; cases h
    | some b =>
      rw [e] at h
      obtain ⟨h1, h2, h3⟩ := eqT_some e
      cases e2 : inT x ts with
      | none => rw [e2] at h; cases h
      | some d =>
        rw [e2] at h
        obtain ⟨k1, k2, k3⟩ := inT_some e2
        have hc : c = (b || d) := (Option.some.inj h).symm
        refine ⟨by simp [T.dats, h1, k1], h2, ?_⟩
        rw [hc, h3, k3]
        rfl
theorem strLt_lt : ∀ a b : List Nat, strLt a b = decide (a < b)
  | _, [] => by simp [strLt]
  | [], _ :: _ => by simp [strLt]
  | a :: as, b :: bs => by
    simp only [strLt, List.cons_lt_cons_iff]
    rw [strLt_lt as bs]
    by_cases h : a < b
    · simp [h]
    · by_cases e : a = b
      · simp [e]
      · simp [h, e]

/-! ### flat items; dicts -/
theorem flat_V {w : Wd} {as : List Addr} {H : Hp} {t : T} {v : V} (h : flatT t = true) (r : Rep w as H t v) : flatV v = true := by
  cases t <;> simp [flatT] at h
  · rw [r.non_inv]; rfl
  · rw [r.bl_inv]; rfl
  · rw [r.int_inv]; rfl
  · rw [r.str_inv]; rfl
theorem flat_eq {w : Wd} {as : List Addr} {H : Hp} {t u : T} {v x : V} (h : flatT t = true) (k : flatT u = true) (r : Rep w as H t v) (q : Rep w as H u x) : eqV v x = T.eqv t u := by
  cases t <;> simp [flatT] at h <;> cases u <;> simp [flatT] at k
  all_goals first
    | (rw [r.non_inv]; first | rw [q.non_inv] | rw [q.bl_inv] | rw [q.int_inv] | rw [q.str_inv])
    | (rw [r.bl_inv]; first | rw [q.non_inv] | rw [q.bl_inv] | rw [q.int_inv] | rw [q.str_inv])
    | (rw [r.int_inv]; first | rw [q.non_inv] | rw [q.bl_inv] | rw [q.int_inv] | rw [q.str_inv])
    | (rw [r.str_inv]; first | rw [q.non_inv] | rw [q.bl_inv] | rw [q.int_inv] | rw [q.str_inv])
  all_goals (simp only [eqV, T.eqv] <;> first | rfl | exact Bool.beq_eq_decide_eq _ _ | exact mk_inj)
theorem flats_V {w : Wd} {as : List Addr} {H : Hp} : ∀ {ts : List T} {vs : List V}, ts.all flatT = true → Reps w as H ts vs → vs.all flatV = true
  | [], _, _, r => by rw [r.nil_inv]; rfl
  | t :: ts, _, h, r => by
    obtain ⟨v, vs, e, r1, r2⟩ := r.cons_inv
    rw [List.all_cons,
            Bool.and_eq_true] at h
    rw [e, List.all_cons, flat_V h.1 r1, flats_V h.2 r2]
    rfl
theorem flats_in {w : Wd} {as : List Addr} {H : Hp} {x : T} {v : V} (hx : flatT x = true) (rx : Rep w as H x v) : ∀ {ts : List T} {vs : List V}, ts.all flatT = true → Reps w as H ts vs → inV v vs = ts.any fun t => T.eqv t x
  | [], _, _, r => by rw [r.nil_inv]; rfl
  | t :: ts, _, h, r => by
    obtain ⟨u, vs, e, r1, r2⟩ := r.cons_inv
    rw [List.all_cons,
            Bool.and_eq_true] at h
    have ih := flats_in hx rx h.2 r2
    unfold inV at ih ⊢
    rw [e, List.any_cons, List.any_cons, flat_eq h.1 hx r1 rx, ih]
theorem kyK_inj {a b : Ky} (h : kyK a = kyK b) : a = b := by
  cases a <;> cases b <;> simp [kyK] at h
  · rw [h]
  · rw [h]
theorem keyT_rep {w : Wd} {as : List Addr} {H : Hp} {t : T} {v : V} {k : Ky} (h : keyT t = some k) (r : Rep w as H t v) : v = kV (kyK k) := by
  cases t <;> simp [keyT] at h
  · subst h; rw [r.int_inv]; rfl
  · subst h; rw [r.str_inv]; rfl
theorem findK_val {w : Wd} {as : List Addr} {H : Hp} (k : Ky) : ∀ {ks : List Ky} {ts : List T} {kvs : List (Key × V)}, kvs.map (·.1) = ks.map kyK → Reps w as H ts (kvs.map (·.2)) →
    (findK k ks ts = none → valV kvs (kyK k) = none) ∧ ∀ t, findK k ks ts = some t → ∃ v, valV kvs (kyK k) = some v ∧ Rep w as H t v
  | [], ts, [], _, r => by
    have : ts = [] := by cases ts with
      | nil => rfl
      | cons t ts => obtain ⟨_, _, e, _⟩ := r.cons_inv; cases e
    subst this
    exact ⟨fun _ => rfl, fun t h => by simp [findK] at h⟩
  | [], _, _ :: _, h, _ => by simp at h
  | _ :: _, _, [], h, _ => by simp at h
  | k' :: ks, [], p :: kvs, _, r => by have := r.nil_inv; simp at this
  | k' :: ks, t :: ts, p :: kvs, h, r => by
    simp only [List.map_cons,
            List.cons.injEq] at h
    obtain ⟨v, vs, e, r1, r2⟩ := r.cons_inv
    simp only [List.map_cons,
            List.cons.injEq] at e
    have ih := findK_val (w := w) (as := as) (H := H) k (ks := ks) (ts := ts) (kvs := kvs) h.2 (by rw [e.2]; exact r2)
    simp only [findK]
    by_cases q : k' = k
    · rw [if_pos q]
      have hp : p.1 = kyK k := by rw [h.1, q]
      refine ⟨fun z => (nomatch z), fun u hu => ?_⟩
      cases hu
      exact ⟨p.2, valV_pos hp, by rw [e.1]; exact r1⟩
    · rw [if_neg q]
      have hp : ¬ p.1 = kyK k := fun z => q (kyK_inj (by rw [← h.1, z]))
      rw [valV_neg hp]
      exact ih
theorem findK_some {w : Wd} {as : List Addr} {H : Hp} (k : Ky) {ks : List Ky} {ts : List T} {kvs : List (Key × V)} (m : kvs.map (·.1) = ks.map kyK) (r : Reps w as H ts (kvs.map (·.2))) : (valV kvs (kyK k)).isSome = (findK k ks ts).isSome := by
  have fv := findK_val k m r
  cases hf : findK k ks ts with
  | none => rw [fv.1 hf]; rfl
  | some t =>
    obtain ⟨v, h, _⟩ := fv.2 t hf
    rw [h]
    rfl
/-- what a dict of the state is in the heap -/
theorem dicOf_rep {w : Wd} {z : Z} {H : Hp} (S : StRel w z H) {t : T} {ks : List Ky} {ts : List T} {v : V} (h : dicOf z.st t = some (ks, ts)) (r : Rep w z.as z.hm t v) :
    ∃ a kvs, v = .ref a ∧ H a = some (.dK kvs) ∧ kvs.map (·.1) = ks.map kyK ∧ Reps w z.as z.hm ts (kvs.map (·.2)) := by
  cases t with
  | dic k u =>
    simp only [dicOf, Option.some.injEq, Prod.mk.injEq] at h
    obtain ⟨rfl, rfl⟩ := h
    unfold Rep at r
    obtain ⟨a, kvs, e, q, m, k⟩ := r
    exact ⟨a, kvs, e, S.sub _ _ q, m, k⟩
  | cell n =>
    simp only [dicOf, cellO] at h
    cases e : z.st[n]? with
    | none =>
            rw [e] at h; cases h
    | some o =>
      rw [e] at h
      cases o with
      | none => cases h
      | some o =>
        cases o with
        | dic k u =>
          obtain ⟨rfl, rfl⟩ : k = ks ∧ u = ts := by simpa using h
          obtain ⟨a, ho, e1, _, e3, kvs, rfl, m, k⟩ := S.live n _ e
          unfold Rep at r
          obtain ⟨a', e1', rfl⟩ := r
          rw [e1] at e1'
          cases e1'
          exact ⟨a, kvs, rfl, e3, m, k⟩
        | _ => cases h
  | _ => simp [dicOf] at h
theorem lstOf_rep {w : Wd} {z : Z} {H : Hp} (S : StRel w z H) {t : T} {ts : List T} {v : V} (h : lstOf z.st t = some ts) (r : Rep w z.as z.hm t v) :
    ∃ a vs, v = .ref a ∧ H a = some (.lst vs) ∧ Reps w z.as z.hm ts vs := by
  cases t with
  | lst u =>
    simp only [lstOf, Option.some.injEq] at h
    subst h
    obtain ⟨a, vs, e, q, k⟩ := r.lst_inv
    exact ⟨a, vs, e, S.sub _ _ q, k⟩
  | cell n =>
    simp only [lstOf, cellO] at h
    cases e : z.st[n]? with
    | none =>
            rw [e] at h; cases h
    | some o =>
      rw [e] at h
      cases o with
      | none => cases h
      | some o =>
        cases o with
        | lst u =>
          obtain rfl : u = ts := by simpa using h
          obtain ⟨a, ho, e1, _, e3, vs, rfl, k⟩ := S.live n _ e
          unfold Rep at r
          obtain ⟨a', e1', rfl⟩ := r
          rw [e1] at e1'
          cases e1'
          exact ⟨a, vs, rfl, e3, k⟩
        | _ => cases h
  | _ => simp [lstOf] at h
theorem insOf_rep {w : Wd} {z : Z} {H : Hp} (S : StRel w z H) {t : T} {c : Nat} {fs : List Nat} {ts : List T} {v : V} (h : insOf z.st t = some (c, fs, ts)) (r : Rep w z.as z.hm t v) :
    ∃ a dx kvs, v = .ref a ∧ H a = some (.ins (w.ad c) dx kvs) ∧ kvs.map (·.1) = fs.map w.nm ∧ Reps w z.as z.hm ts (kvs.map (·.2)) := by
  cases t with
  | ins c' f u =>
    simp only [insOf, Option.some.injEq, Prod.mk.injEq] at h
    obtain ⟨rfl, rfl, rfl⟩ := h
    unfold Rep at r
    obtain ⟨a, dx, kvs, e, q, m, k⟩ := r
    exact ⟨a, dx, kvs, e, S.sub _ _ q, m, k⟩
  | cell n =>
    simp only [insOf, cellO] at h
    cases e : z.st[n]? with
    | none =>
            rw [e] at h; cases h
    | some o =>
      rw [e] at h
      cases o with
      | none => cases h
      | some o =>
        cases o with
        | ins c' f u =>
          obtain ⟨rfl, rfl, rfl⟩ : c' = c ∧ f = fs ∧ u = ts := by simpa using h
          obtain ⟨a, ho, e1, _, e3, dx, kvs, rfl, m, k⟩ := S.live n _ e
          unfold Rep at r
          obtain ⟨a', e1', rfl⟩ := r
          rw [e1] at e1'
          cases e1'
          exact ⟨a, dx, kvs, rfl, e3, m, k⟩
        | _ => cases h
  | _ => simp [insOf] at h

/-! ### comparisons -/
def rCmp (w : Wd) (op : CmpOp) : R2 := fun x y H Q => ∃ z t u E, StRel w z H ∧ Rep w z.as z.hm t x ∧ Rep w z.as z.hm u y ∧ PostG (rT w) w z H (ofO z.st ((cmpT z.st op t u).map .bl)) Q E
theorem post_some {w : Wd} {z : Z} {H : Hp} {Q : VK} {E : XK} {α : Type} {o : Option α} {f : α → T} (p : PostG (rT w) w z H (ofO z.st (o.map f)) Q E) : ∃ a, o = some a ∧ PostG (rT w) w z H (ofO z.st (some (f a))) Q E := by
  cases o with
  | none => exact p.elim
  | some a => exact ⟨a, rfl, p⟩
theorem map_some {α β : Type} {o : Option α} {f : α → β} {b : β} (h : o.map f = some b) : ∃ a, o = some a ∧ f a = b := by
  cases o with
  | none => cases h
  | some a => exact ⟨a, rfl, Option.some.inj h⟩
theorem isN_rep {w : Wd} {as : List Addr} {H : Hp} {t : T} {v : V} (r : Rep w as H t v) : decide (v = .non) = isN t := by
  cases t
  · rw [r.non_inv]; rfl
  · rw [r.bl_inv]; rfl
  · rw [r.int_inv]; rfl
  · rw [r.str_inv]; rfl
  · unfold Rep at r; rw [r]; rfl
  · unfold Rep at r; rw [r]; rfl
  · obtain ⟨a, vs, e, _⟩ := r.tup_inv; rw [e]; rfl
  · obtain ⟨a, vs, e, _⟩ := r.lst_inv; rw [e]; rfl
  · unfold Rep at r; obtain ⟨a, _, e, _⟩ := r; rw [e]; rfl
  · unfold Rep at r; obtain ⟨a, _, _, e, _⟩ := r; rw [e]; rfl
  · unfold Rep at r; obtain ⟨a, e, _⟩ := r; rw [e]; rfl
  · unfold Rep at r; obtain ⟨a, _, e⟩ := r; rw [e]; rfl
  · unfold Rep at r; obtain ⟨a, d, kvs, _, e, _⟩ := r; rw [e]; rfl
theorem any_eqv {x : T} (hx : flatT x = true) : ∀ {ts : List T}, ts.all flatT = true → (ts.any fun t => T.eqv t x) = ts.any fun t => T.eqv t x := fun _ => rfl
def cmpI : CmpOp → Int → Int → Bool
  | .Lt, i, j => decide (i < j)
  | .LtE, i, j => decide (i ≤ j)
  | .Gt, i, j => decide (j < i)
  | _, i, j => decide (j ≤ i)
def cmpS : CmpOp → List Nat → List Nat → Bool
  | .Lt, i, j => strLt i j
  | .LtE, i, j => !strLt j i
  | .Gt, i, j => strLt j i
  | _, i, j => !strLt i j
theorem cmpV_inv {op : CmpOp} {t u : T} {b : Bool} (e : cmpV op t u = some b) : (∃ i j, t = .int i ∧ u = .int j ∧ cmpI op i j = b) ∨ ∃ x y, t = .str x ∧ u = .str y ∧ cmpS op x y = b := by
  unfold cmpV at e
  split at e
  all_goals first
    | exact .inl ⟨_, _, rfl, rfl, Option.some.inj e⟩
    | exact .inr ⟨_, _, rfl, rfl, Option.some.inj e⟩
    | cases e
theorem tupLe_inv {t u : T} {b : Bool} (e : tupLe t u = some b) : ∃ ts us, t = .tup ts ∧ u = .tup us ∧ (T.dats 20 ts && T.dats 20 us && alikeT (.tup ts) (.tup us)) = true ∧ leT (.tup ts) (.tup us) = b := by
  unfold tupLe at e
  split at e
  · obtain ⟨c, e⟩ := ite_some (P := fun o => o = some b) e (fun h => nomatch h)
    exact ⟨_, _, rfl, rfl, c, Option.some.inj e⟩
  · cases e
theorem op_cmp {X : Cx} {w : Wd} (hK : X.K = w.K) (hu : X.A.units + 65 < cLine) (op : CmpOp) : OpR X (compareOp op) (rCmp w op) := by
  intro pins s σ H x y v u Q I rx ry ⟨z, t, t2, E, S, r1, r2, p⟩
  obtain ⟨b, e, p⟩ := post_some p
  have Qb : Q (.bl b) H := post_bl p S
  have hK' : ∀ {v : V} {d : PyData}, Dp w.K H v d → Dp X.K H v d := fun h => by rw [hK]; exact h
  have data : ∀ {t : T} {v : V}, t.dat 60 = true → Rep w z.as z.hm t v → Dp X.K H v (toD t) := fun h r => hK' (Rep.dp S.sub 60 _ _ h r)
  unfold cmpT at e
  split at e
  · cases r1.str_inv; cases r2.str_inv
    refine op_eq pins s σ H _ _ v u Q I rx ry ⟨rfl, ?_⟩
    rw [dec_str, mk_inj, Option.some.inj e]
    exact Qb
  · cases r1.str_inv; cases r2.str_inv
    refine op_ne pins s σ H _ _ v u Q I rx ry ⟨rfl, ?_⟩
    rw [dec_str, mk_inj, Option.some.inj e]
    exact Qb
  · obtain ⟨h1, h2, h3⟩ := eqT_some e
    exact op_eqD (by omega) pins s σ H x y v u Q I rx ry ⟨_, _, data h1 r1, data h2 r2, dat_shaped h1, dat_shaped h2, by rw [← h3]; exact Qb⟩
  · obtain ⟨c, e2, e3⟩ := map_some e
    subst e3
    obtain ⟨h1, h2, h3⟩ := eqT_some e2
    exact op_neD (by omega) pins s σ H x y v u Q I rx ry ⟨_, _, data h1 r1, data h2 r2, dat_shaped h1, dat_shaped h2, by rw [← h3]; exact Qb⟩
  · have hy := r2.non_inv
    subst hy
    refine op_isN pins s σ H x _ v u Q I rx ry ⟨rfl, ?_⟩
    rw [isN_rep r1, Option.some.inj e]
    exact Qb
  · have hy := r2.non_inv
    subst hy
    refine op_notN pins s σ H x _ v u Q I rx ry ⟨rfl, ?_⟩
    rw [isN_rep r1, Option.some.inj e]
    exact Qb
  · cases r1.bl_inv; cases r2.bl_inv
    refine op_isBl pins s σ H _ _ v u Q I rx ry ⟨_, _, rfl, rfl, ?_⟩
    rw [← Bool.beq_eq_decide_eq, Option.some.inj e]
    exact Qb
  · cases r1.bl_inv; cases r2.bl_inv
    refine op_notBl pins s σ H _ _ v u Q I rx ry ⟨_, _, rfl, rfl, ?_⟩
    rw [← Bool.beq_eq_decide_eq, Option.some.inj e]
    exact Qb
  · cases e
  · cases e
  · cases r1.str_inv; cases r2.str_inv
    refine op_in_sign pins s σ H _ _ v u Q I rx ry ⟨_, _, rfl, rfl, ?_⟩
    have e' := Option.some.inj e
    unfold occ at e'
    simp only [List.toList_toArray]
    rw [e']
    exact Qb
  · cases r1.str_inv; cases r2.str_inv
    refine op_notIn_sign pins s σ H _ _ v u Q I rx ry ⟨_, _, rfl, rfl, ?_⟩
    have e' := Option.some.inj e
    unfold occ at e'
    simp only [List.toList_toArray]
    rw [e']
    exact Qb
  · obtain ⟨a, vs, e1, q1, k1⟩ := r2.tup_inv
    subst e1
    obtain ⟨⟨c1, c2⟩, e⟩ := ite_some (P := fun o => o = some b) e (fun h => nomatch h)
    refine op_in_seq pins s σ H _ _ v u Q I rx ry ⟨a, vs, rfl, .inr (by rw [hK]; exact sqT_mono S.sub q1), flat_V c1 r1, flats_V c2 k1, ?_⟩
    rw [if_neg Bool.false_ne_true, flats_in c1 r1 c2 k1, Option.some.inj e]
    exact Qb
  · obtain ⟨a, vs, e1, q1, k1⟩ := r2.tup_inv
    subst e1
    obtain ⟨⟨c1, c2⟩, e⟩ := ite_some (P := fun o => o = some b) e (fun h => nomatch h)
    refine op_notIn_seq pins s σ H _ _ v u Q I rx ry ⟨a, vs, rfl, .inr (by rw [hK]; exact sqT_mono S.sub q1), flat_V c1 r1, flats_V c2 k1, ?_⟩
    rw [if_pos rfl, flats_in c1 r1 c2 k1, Option.some.inj e]
    exact Qb
  · split at e
    · rename_i ts hl
      obtain ⟨a, vs, e1, q1, k1⟩ := lstOf_rep S hl r2
      subst e1
      obtain ⟨d, ht, h⟩ := inT_some e
      refine op_inD (by omega) pins s σ H _ _ v u Q I rx ry ⟨_, _, data ht r1, .lst (SqL.of q1) (by rw [hK]; exact Reps.dp S.sub 60 ts vs d k1), dat_shaped ht, dats_shaped d, ?_⟩
      rw [← h]
      exact Qb
    · split at e
      · rename_i ks ts k hd hk
        obtain ⟨a, kvs, e1, q1, m, k1⟩ := dicOf_rep S hd r2
        subst e1
        cases (show u =
                Value.ref a from ry)
        have ky := keyT_rep hk r1
        subst ky
        refine d_in (by omega) I (DGet.k q1) rx fun s' I' => ⟨.bl _, H, I', rfl, ?_⟩
        rw [findK_some k m k1, Option.some.inj e]
        exact Qb
      · cases e
  · split at e
    · rename_i ts hl
      obtain ⟨a, vs, e1, q1, k1⟩ := lstOf_rep S hl r2
      subst e1
      obtain ⟨c, e2, e3⟩ := map_some e
      subst e3
      obtain ⟨d, ht, h⟩ := inT_some e2
      refine op_notInD (by omega) pins s σ H _ _ v u Q I rx ry ⟨_, _, data ht r1, .lst (SqL.of q1) (by rw [hK]; exact Reps.dp S.sub 60 ts vs d k1), dat_shaped ht, dats_shaped d, ?_⟩
      rw [← h]
      exact Qb
    · split at e
      · rename_i ks ts k hd hk
        obtain ⟨a, kvs, e1, q1, m, k1⟩ := dicOf_rep S hd r2
        subst e1
        cases (show u =
                Value.ref a from ry)
        have ky := keyT_rep hk r1
        subst ky
        refine d_notIn (by omega) I (DGet.k q1) rx fun s' I' => ⟨.bl _, H, I', rfl, ?_⟩
        rw [findK_some k m k1, Option.some.inj e]
        exact Qb
      · cases e
  · rcases cmpV_inv e with ⟨i, j, rfl, rfl, e9⟩ | ⟨i, j, rfl, rfl, e9⟩
    · cases r1.int_inv; cases r2.int_inv
      exact op_lt pins s σ H _ _ v u Q I rx ry ⟨_, _, rfl, rfl, by subst e9; exact Qb⟩
    · cases r1.str_inv; cases r2.str_inv
      refine op_lt_str pins s σ H _ _ v u Q I rx ry ⟨_, _, rfl, rfl, ?_⟩
      subst e9
      show Q (.bl (decide (i < j))) H
      rw [← strLt_lt]
      exact Qb
  · have e : (match cmpV .LtE t t2 with
      | some r => some r
      | none => tupLe t t2) = some b := e
    cases hv : cmpV .LtE t t2 with
    | none =>
      rw [hv] at e
      obtain ⟨ts, us, rfl, rfl, c, e⟩ := tupLe_inv (show tupLe t t2 = some b from e)
      clear hv
      · simp only [Bool.and_eq_true] at c
        obtain ⟨⟨c1, c2⟩, c3⟩ := c
        have d1 : (T.tup ts).dat 21 = true := c1
        have d2 : (T.tup us).dat 21 = true := c2
        obtain ⟨as1, x1⟩ := Dp.reads I (toD (.tup ts)) x v (hK' (Rep.dp S.sub 21 _ _ d1 r1)) rx
        obtain ⟨as2, x2⟩ := Dp.reads I (toD (.tup us)) y u (hK' (Rep.dp S.sub 21 _ _ d2 r2)) ry
        have dep := (dat_lay 21 (.tup ts) d1).2
        refine PySem.W.rcLe_alike _ _ _ _ _ _ _ _ x1 x2 c3 (by simp [toD]) (Nat.lt_of_le_of_lt (Nat.add_le_add_left (Nat.min_le_left _ _) _) (by omega)) X.prog X.w _ _ ?_
        have e2 : (!PySem.W.dataLt (toD (.tup us)) (toD (.tup ts))) = b := e
        rw [e2]
        exact ⟨.bl b, H, I, rfl, Qb⟩
    | some r =>
      rw [hv] at e
      have e : cmpV .LtE t t2 = some b := hv.trans e
      rcases cmpV_inv e with ⟨i, j, rfl, rfl, e9⟩ | ⟨i, j, rfl, rfl, e9⟩
      · cases r1.int_inv; cases r2.int_inv
        exact op_le pins s σ H _ _ v u Q I rx ry ⟨_, _, rfl, rfl, by subst e9; exact Qb⟩
      · cases r1.str_inv; cases r2.str_inv
        refine op_le_str pins s σ H _ _ v u Q I rx ry ⟨_, _, rfl, rfl, ?_⟩
        subst e9
        show Q (.bl (!decide (j < i))) H
        rw [← strLt_lt]
        exact Qb
  · rcases cmpV_inv e with ⟨i, j, rfl, rfl, e9⟩ | ⟨i, j, rfl, rfl, e9⟩
    · cases r1.int_inv; cases r2.int_inv
      exact op_gt pins s σ H _ _ v u Q I rx ry ⟨_, _, rfl, rfl, by subst e9; exact Qb⟩
    · cases r1.str_inv; cases r2.str_inv
      refine op_gt_str pins s σ H _ _ v u Q I rx ry ⟨_, _, rfl, rfl, ?_⟩
      subst e9
      show Q (.bl (decide (j < i))) H
      rw [← strLt_lt]
      exact Qb
  · rcases cmpV_inv e with ⟨i, j, rfl, rfl, e9⟩ | ⟨i, j, rfl, rfl, e9⟩
    · cases r1.int_inv; cases r2.int_inv
      exact op_ge pins s σ H _ _ v u Q I rx ry ⟨_, _, rfl, rfl, by subst e9; exact Qb⟩
    · cases r1.str_inv; cases r2.str_inv
      refine op_ge_str pins s σ H _ _ v u Q I rx ry ⟨_, _, rfl, rfl, ?_⟩
      subst e9
      show Q (.bl (!decide (i < j))) H
      rw [← strLt_lt]
      exact Qb
end Mu
end
section
set_option Elab.async false
set_option linter.all false
set_option maxRecDepth 100000
set_option maxHeartbeats 4000010
/-! Mu, part 4: truth, items, slices, built-in functions and methods, by values. -/
namespace Mu
open PySem
open PySem.Spec
open PyProof.Rows
open L2

theorem ite_is {α : Type} {c : Prop} [Decidable c] {o : Option α} {b : α} (h : (if c then o else none) = some b) : c ∧ o = some b := by
  by_cases hc : c
  · rw [if_pos hc] at h
    exact ⟨hc, h⟩
  · rw [if_neg hc] at h
    cases h
theorem isEmpty_reps {w : Wd} {as : List Addr} {H : Hp} {ts : List T} {vs : List V} (r : Reps w as H ts vs) : ts.isEmpty = vs.isEmpty := by
  cases ts with
  | nil => rw [r.nil_inv]; rfl
  | cons t ts => obtain ⟨v, s, e, _⟩ := r.cons_inv; rw [e]; rfl
theorem isEmpty_keys {ks : List Ky} {kvs : List (Key × V)} (m : kvs.map (·.1) = ks.map kyK) : ks.isEmpty = kvs.isEmpty := by
  cases ks <;> cases kvs <;> simp at m ⊢
def rTru (w : Wd) : V → Hp → (Bool → Hp → Prop) → Prop := fun x H Q => ∃ z t b, StRel w z H ∧ Rep w z.as z.hm t x ∧ truV z.st t = some b ∧ Q b H
theorem tru_rep {X : Cx} {w : Wd} (hK : X.K = w.K) {z : Z} {H : Hp} (S : StRel w z H) {t : T} {x : V} {b : Bool} (r : Rep w z.as z.hm t x) (h : truV z.st t = some b) : TruV X.K x H b := by
  unfold truV at h
  split at h
  · rw [r.non_inv]; exact (Option.some.inj h).symm
  · rw [r.bl_inv]; exact (Option.some.inj h).symm
  · rename_i i
    rw [r.int_inv]
    show b = (i != 0)
    rw [← Option.some.inj h]
    by_cases e : i = 0
    · subst e; rfl
    · rw [decide_eq_true e]; exact (bne_iff_ne.mpr e).symm
  · rename_i cs
    obtain ⟨c, h⟩ := ite_some (P := fun o => o = some b) h (fun z => nomatch z)
    rw [r.str_inv]
    refine ⟨by rw [str_len, ← big_line]; exact c, ?_⟩
    rw [← Option.some.inj h, str_len]
    cases cs with
    | nil => rfl
    | cons a l =>
      symm
      show (((l.length + 1 : Nat) : Int) != 0) = true
      exact bne_iff_ne.mpr
              (by omega)
  · obtain ⟨a, vs, e, q, k⟩ := r.tup_inv
    rw [e]
    exact .inr (.inl ⟨vs, by rw [hK]; exact sqT_mono S.sub q, by rw [← isEmpty_reps k]; exact (Option.some.inj h).symm⟩)
  · split at h
    · rename_i ts hl
      obtain ⟨a, vs, e, q, k⟩ := lstOf_rep S hl r
      rw [e]
      exact .inl ⟨vs, SqL.of q, by rw [← isEmpty_reps k]; exact (Option.some.inj h).symm⟩
    · split at h
      · rename_i ks us hd
        obtain ⟨a, kvs, e, q, m, k⟩ := dicOf_rep S hd r
        rw [e]
        exact .inr (.inr ⟨kvs, q, by rw [← isEmpty_keys m]; exact (Option.some.inj h).symm⟩)
      · cases h

/-! ### items -/
theorem atT_atI {α : Type} (xs : List α) (i : Int) : atT xs i = atI xs i := by
  unfold atT atI ixN
  by_cases h : 0 ≤ i
  · rw [if_pos h, if_pos h]
    by_cases h2 : i < xs.length
    · rw [if_pos h2]
      rfl
    · rw [if_neg h2]
      exact List.getElem?_eq_none (by omega)
  · rw [if_neg h, if_neg h]
    by_cases h2 : -(xs.length : Int) ≤ i
    · rw [if_pos h2, if_pos h2]
      rfl
    · rw [if_neg h2, if_neg h2]
      rfl
theorem at_reps {w : Wd} {as : List Addr} {H : Hp} {ts : List T} {vs : List V} {i : Int} {t : T} (r : Reps w as H ts vs) (h : atT ts i = some t) : ∃ v, atI vs i = some v ∧ Rep w as H t v := by
  rw [atT_atI] at h
  unfold atI at h ⊢
  rw [r.length] at h
  cases e : ixN vs.length i with
  | none =>
          rw [e] at h; cases h
  | some j =>
    rw [e] at h
    exact r.get h
def rIxM (w : Wd) : R2 := fun x y H Q => ∃ z t u E, StRel w z H ∧ Rep w z.as z.hm t x ∧ Rep w z.as z.hm u y ∧ PostG (rT w) w z H (ofO z.st (ixT z.st t u)) Q E
theorem post_is {w : Wd} {z : Z} {H : Hp} {Q : VK} {E : XK} {o : Option T} (p : PostG (rT w) w z H (ofO z.st o) Q E) : ∃ t, o = some t ∧ PostG (rT w) w z H (.ok t z.st) Q E := by
  cases o with
  | none => exact p.elim
  | some t => exact ⟨t, rfl, p⟩
theorem ix_mu {X : Cx} {w : Wd} (hK : X.K = w.K) (hu : X.A.units + 65 < cLine) : IxR X (rIxM w) := by
  intro value slice pins s σ H x y v u Q I rx ry ⟨z, t, t2, E, S, r1, r2, p⟩ hs
  obtain ⟨tr, e, p⟩ := post_is p
  have fin : ∀ {v : V}, Rep w z.as z.hm tr v → Q v H := fun r => PostG.here p S r
  unfold ixT at e
  split at e
  · obtain ⟨a, vs, e1, q, k⟩ := r1.tup_inv
    subst e1
    cases r2.int_inv
    obtain ⟨vv, h1, h2⟩ := at_reps k e
    exact ix_tup value slice pins s σ H _ _ v u Q I rx ry ⟨a, vs, _, vv, rfl, rfl, by rw [hK]; exact sqT_mono S.sub q, h1, fin h2⟩ hs
  · rename_i cs i
    cases r1.str_inv
    cases r2.int_inv
    obtain ⟨c, e⟩ := ite_is e
    obtain ⟨d, e2, e3⟩ := map_some e
    subst e3
    rw [atT_atI] at e2
    exact ix_str value slice pins s σ H _ _ v u Q I rx ry ⟨_, _, d, rfl, rfl, by rw [str_len, ← big_line]; exact c, e2, fin (Rep.of_str [d])⟩ hs
  · rename_i ns i
    unfold Rep at r1
    obtain ⟨a, e1, q⟩ := r1
    subst e1
    cases r2.int_inv
    obtain ⟨d, e2, e3⟩ := map_some e
    subst e3
    have h2 : atI (ns.map V.int) i = some (.int d) := by
      rw [atT_atI] at e2
      unfold atI at e2 ⊢
      rw [List.length_map]
      cases e4 : ixN ns.length i with
      | none => rw [e4] at e2; cases e2
      | some j =>
        rw [e4] at e2
        have e5 : ns[j]? = some d := e2
        show (ns.map V.int)[j]? = some (.int d)
        rw [List.getElem?_map, e5]
        rfl
    exact ix_list value slice pins s σ H _ _ v u Q I rx ry ⟨a, _, _, _, rfl, rfl, by rw [hK]; exact sqL_mono S.sub q, h2, fin (Rep.of_int d)⟩ hs
  · split at e
    · rename_i ts hl
      obtain ⟨a, vs, e1, q, k⟩ := lstOf_rep S hl r1
      subst e1
      split at e
      · cases r2.int_inv
        obtain ⟨vv, h1, h2⟩ := at_reps k e
        exact ix_list value slice pins s σ H _ _ v u Q I rx ry ⟨a, vs, _, vv, rfl, rfl, SqL.of q, h1, fin h2⟩ hs
      · cases e
    · split at e
      · rename_i ks ts k hd hk
        obtain ⟨a, kvs, e1, q, m, k1⟩ := dicOf_rep S hd r1
        subst e1
        cases (show v =
                Value.ref a from rx)
        have ky := keyT_rep hk r2
        subst ky
        obtain ⟨vv, h1, h2⟩ := (findK_val k m k1).2 tr e
        have g : DGet H a (kV (kyK k)) (some vv) := by rw [← h1]; exact DGet.k q
        exact tail_any (dict_typeIs I g) PySem.F.slot_dict_getitem.lookup (d_getItem (by omega) I g ry fun w' s3 I3 rw' => ⟨vv, H, I3, rw', fin h2⟩) hs
      · cases e
/-! ### slices -/
theorem sIx_eq (n d : Nat) (o : Option Int) : sIx n d o = HT.sIx n d o := by
  cases o with
  | none => rfl
  | some v =>
    show (if 0 ≤ v then min v.toNat n else (v + n).toNat) = HT.sIx n d (some v)
    unfold HT.sIx
    by_cases hv : v < 0
    · simp [hv, show ¬ 0 ≤ v by omega]
    · simp [hv, show 0 ≤ v by omega]
theorem cut_reps {w : Wd} {as : List Addr} {H : Hp} {ts : List T} {vs : List V} (r : Reps w as H ts vs) (lo hi : Option Int) : Reps w as H (cutT ts lo hi) (cutV vs lo hi) := by
  unfold cutT cutV
  rw [sIx_eq, sIx_eq, r.length]
  exact (r.drop _).take _
def rSlM (w : Wd) : V → Option Int → Option Int → Hp → VK → Prop := fun x lo hi H Q => ∃ z t E, StRel w z H ∧ Rep w z.as z.hm t x ∧ PostG (rT w) w z H (ofO z.st (slT z.st t lo hi)) Q E
theorem sl_mu {X : Cx} {w : Wd} (hK : X.K = w.K) : SlR X (rSlM w) := by
  intro pins s σ H x v vl vu lo hi sl Q I rx hs pl pu ⟨z, t, E, S, r1, p⟩
  obtain ⟨tr, e, p⟩ := post_is p
  have fin : ∀ {v : V}, Rep w z.as z.hm tr v → Q v H := fun r => PostG.here p S r
  unfold slT at e
  split at e
  · rename_i ts
    obtain ⟨a, vs, e1, q, k⟩ := r1.tup_inv
    subst e1
    cases e
    refine sl_tupA pins s σ H _ v vl vu lo hi sl Q I rx hs pl pu ⟨a, vs, rfl, by rw [hK]; exact sqT_mono S.sub q, fun h => fin ?_, fun _ => post_tup (E := E) p S (cut_reps k lo hi)⟩
    unfold Rep
    refine ⟨a, vs, rfl, q, ?_⟩
    have h1 := cut_reps k lo hi
    have h2 : cutV vs lo hi = vs := by
      unfold cutV
      rw [h.1, h.2]
      simp
    rw [h2] at h1
    exact h1
  · rename_i cs
    cases r1.str_inv
    obtain ⟨c, e⟩ := ite_is e
    cases e
    refine sl_str pins s σ H _ v vl vu lo hi sl Q I rx hs pl pu ⟨_, rfl, by rw [str_len, ← big_line]; exact c, ?_⟩
    have h1 : cutS ⟨cs.toArray⟩ lo hi = ⟨(cutT cs lo hi).toArray⟩ := by
      unfold cutS cutT
      rw [sIx_eq, sIx_eq, str_len]
    rw [h1]
    exact fin (Rep.of_str _)
  · rename_i ns
    unfold Rep at r1
    obtain ⟨a, e1, q⟩ := r1
    subst e1
    cases e
    refine sl_list pins s σ H _ v vl vu lo hi sl Q I rx hs pl pu ⟨a, _, rfl, by rw [hK]; exact sqL_mono S.sub q, ?_⟩
    have h1 : cutV (ns.map V.int) lo hi = (cutT ns lo hi).map V.int := by
      unfold cutV cutT
      rw [sIx_eq, sIx_eq, List.length_map, List.map_take, List.map_drop]
    rw [h1]
    exact post_lst (E := E) p S (Reps.of_ints _)
  · split at e
    · rename_i ts hl
      obtain ⟨a, vs, e1, q, k⟩ := lstOf_rep S hl r1
      subst e1
      cases e
      exact sl_list pins s σ H _ v vl vu lo hi sl Q I rx hs pl pu ⟨a, vs, rfl, SqL.of q, post_lst (E := E) p S (cut_reps k lo hi)⟩
    · cases e

/-! ### built-in functions -/
def rBl (w : Wd) (pg : Pg) (b : B) : List V → Hp → VK → Prop := fun vs H Q => ∃ z ts E, StRel w z H ∧ Reps w z.as z.hm ts vs ∧ PostG (rT w) w z H (ofO z.st (blT pg z.st b ts)) Q E
theorem Reps.one {w : Wd} {as : List Addr} {H : Hp} {t : T} {vs : List V} (r : Reps w as H [t] vs) : ∃ v, vs = [v] ∧ Rep w as H t v := by
  obtain ⟨v, s, e, r1, r2⟩ := r.cons_inv
  rw [r2.nil_inv] at e
  exact ⟨v, e, r1⟩
theorem Reps.two {w : Wd} {as : List Addr} {H : Hp} {t u : T} {vs : List V} (r : Reps w as H [t, u] vs) : ∃ v x, vs = [v, x] ∧ Rep w as H t v ∧ Rep w as H u x := by
  obtain ⟨v, s, e, r1, r2⟩ := r.cons_inv
  obtain ⟨x, e2, r3⟩ := r2.one
  rw [e2] at e
  exact ⟨v, x, e, r1, r3⟩
theorem intsT_map : ∀ {ts : List T} {ns : List Int}, intsT ts = some ns → ts = ns.map T.int
  | [], ns, h => by simp [intsT] at h; subst h; rfl
  | t :: ts, ns, h => by
    cases t with
    | int i =>
      simp only [intsT] at h
      obtain ⟨r, h1, h2⟩ := map_some h
      rw [intsT_map h1, ← h2]
      rfl
    | _ => simp [intsT] at h
theorem blsT_map : ∀ {ts : List T} {ns : List Bool}, blsT ts = some ns → ts = ns.map T.bl
  | [], ns, h => by simp [blsT] at h; subst h; rfl
  | t :: ts, ns, h => by
    cases t with
    | bl i =>
      simp only [blsT] at h
      obtain ⟨r, h1, h2⟩ := map_some h
      rw [blsT_map h1, ← h2]
      rfl
    | _ => simp [blsT] at h
theorem strsT_map : ∀ {ts : List T} {ns : List (List Nat)}, strsT ts = some ns → ts = ns.map T.str
  | [], ns, h => by simp [strsT] at h; subst h; rfl
  | t :: ts, ns, h => by
    cases t with
    | str i =>
      simp only [strsT] at h
      obtain ⟨r, h1, h2⟩ := map_some h
      rw [strsT_map h1, ← h2]
      rfl
    | _ => simp [strsT] at h
theorem Reps.bls : ∀ {w : Wd} {as : List Addr} {H : Hp} {ns : List Bool} {vs : List V}, Reps w as H (ns.map T.bl) vs → vs = ns.map V.bl
  | _, _, _, [], _, h => h.nil_inv
  | _, _, _, n :: ns, _, h => by
    obtain ⟨v', r, e, q1, q2⟩ := Reps.cons_inv h
    subst e
    rw [q1.bl_inv, Reps.bls q2]
    rfl
def strN (x : List Nat) : Str := ⟨x.toArray⟩
theorem Reps.strs : ∀ {w : Wd} {as : List Addr} {H : Hp} {ns : List (List Nat)} {vs : List V}, Reps w as H (ns.map T.str) vs → vs = (ns.map strN).map V.str
  | _, _, _, [], _, h => h.nil_inv
  | _, _, _, n :: ns, _, h => by
    obtain ⟨v', r, e, q1, q2⟩ := Reps.cons_inv h
    subst e
    rw [q1.str_inv, Reps.strs q2]
    rfl
theorem Reps.of_strs {w : Wd} {as : List Addr} {H : Hp} : ∀ (ns : List (List Nat)), Reps w as H (ns.map T.str) ((ns.map strN).map V.str)
  | [] => .nil
  | n :: ns => .cons (Rep.of_str n) (Reps.of_strs ns)
section
variable {X : Cx} {w : Wd} {pg : Pg}
theorem lst1_rep {z : Z} {H : Hp} (S : StRel w z H) {ts us : List T} {vs : List V} (h : lst1 z.st ts = some us) (r : Reps w z.as z.hm ts vs) : ∃ a ws, vs = [.ref a] ∧ H a = some (.lst ws) ∧ Reps w z.as z.hm us ws := by
  unfold lst1 at h
  split at h
  · obtain ⟨v, e, r1⟩ := r.one
    obtain ⟨a, ws, e1, q, k⟩ := lstOf_rep S h r1
    exact ⟨a, ws, by rw [e, e1], q, k⟩
  · cases h
/-- what a function of the kit asks, from what ours is -/
theorem bl_of {b : B} {f : Value} {r : List V → Hp → VK → Prop} (hr : CallR X f r)
    (h : ∀ (z : Z) (H : Hp) (ts : List T) (vs : List V) (Q : VK) (E : XK) (tr : T), StRel w z H → Reps w z.as z.hm ts vs → blT pg z.st b ts = some tr → PostG (rT w) w z H (.ok tr z.st) Q E → r vs H Q) : CallR X f (rBl w pg b) := by
  intro pins s σ H xs us Q I rr ⟨z, ts, E, S, rs, p⟩
  obtain ⟨tr, e, p⟩ := post_is p
  exact hr pins s σ H xs us Q I rr (h z H ts xs Q E tr S rs e p)
theorem bl_len (hK : X.K = w.K) : CallR X (.builtin "len") (rBl w pg .len) := by
  refine bl_of (call_len.or call_lenD) fun z H ts vs Q E tr S rs e p => ?_
  have e : lenT z.st ts = some tr := e
  unfold lenT at e
  split at e
  · obtain ⟨v, e1, r1⟩ := rs.one
    rw [e1, r1.str_inv]
    obtain ⟨c, e⟩ := ite_is e
    cases e
    exact .inl ⟨_, _, rfl, ⟨by rw [str_len, ← big_line]; exact c, rfl⟩, by rw [str_len]; exact PostG.here p S (Rep.of_int _)⟩
  · obtain ⟨v, e1, r1⟩ := rs.one
    obtain ⟨a, ws, e2, q, k⟩ := r1.tup_inv
    rw [e1, e2]
    cases e
    exact .inl ⟨_, _, rfl, .inr ⟨ws, by rw [hK]; exact sqT_mono S.sub q, rfl⟩, by rw [← k.length]; exact PostG.here p S (Rep.of_int _)⟩
  · obtain ⟨v, e1, r1⟩ := rs.one
    unfold Rep at r1
    obtain ⟨a, e2, q⟩ := r1
    rw [e1, e2]
    cases e
    exact .inl ⟨_, _, rfl, .inl ⟨_, by rw [hK]; exact sqL_mono S.sub q, rfl⟩, by rw [List.length_map]; exact PostG.here p S (Rep.of_int _)⟩
  · obtain ⟨v, e1, r1⟩ := rs.one
    rw [e1]
    split at e
    · rename_i us hl
      obtain ⟨a, ws, e2, q, k⟩ := lstOf_rep S hl r1
      rw [e2]
      cases e
      exact .inl ⟨_, _, rfl, .inl ⟨ws, SqL.of q, rfl⟩, by rw [← k.length]; exact PostG.here p S (Rep.of_int _)⟩
    · split at e
      · rename_i ks us hd
        obtain ⟨a, kvs, e2, q, m, k⟩ := dicOf_rep S hd r1
        rw [e2]
        cases e
        refine .inr ⟨a, kvs, rfl, q, ?_⟩
        have : kvs.length = ks.length := by
          have := congrArg List.length m
          simpa using this
        rw [this]
        exact PostG.here p S (Rep.of_int _)
      · cases e
  · cases e
theorem sum_tuple {pins : List (Addr × Obj)} {s : Shared} {σ : L2.St} {H : Hp} {a : Addr} {ns : List Int} {Q : VK} (hc : X.calm = true) (I : Inv X pins σ H s) (h : SqT X.K H a (ns.map V.int)) (q : Q (.int ns.sum) H) :
    wpAny (model X.prog X.w) X.A (call (.builtin "sum") [.ref a]) (EP X pins σ Q) X.xe s := by
  obtain ⟨its, rv,
          ht, _⟩ := I.tuple h
  have hi := rv.ints
  obtain ⟨xs,
          hx⟩ := hi.allInts.items
  have hn : numsOf its.toArray.toList = ns := by rw [show its.toArray.toList = its from rfl, hi.numsOf]
  have hx' : its.toArray = intItems xs := hx
  rw [hx'] at ht hn
  rw [nums_intItems] at hn
  refine PySem.W.ktm_sumG (I.ok.hd hc) (show s.heap.IsTuple a (intItems xs) from ht) fun h' tk t' hk => ⟨.int ns.sum, H, I.kept hk, ⟨t', ?_⟩, q⟩
  have e : preSum (numAt xs) xs.size = ns.sum := by rw [preSum_eq, List.take_of_length_le (by simp), hn]
  rw [e]
theorem call_sumT (hc : X.calm = true) : CallR X (.builtin "sum") (fun vs H Q => ∃ (a : Addr) (ns : List Int), vs = [V.ref a] ∧ SqT X.K H a (ns.map V.int) ∧ Q (.int ns.sum) H) := by
  intro pins s σ H vs us Q I r ⟨a, ns, e, h, q⟩
  subst e
  rw [Vals.ref1 r]
  exact sum_tuple hc I h q
theorem bl_sum (hK : X.K = w.K) (hc : X.calm = true) : CallR X (.builtin "sum") (rBl w pg .sum) := by
  refine bl_of ((cr_sum hc).or (call_sumT hc)) fun z H ts vs Q E tr S rs e p => ?_
  have e : sumT z.st ts = some tr := e
  unfold sumT at e
  split at e
  · obtain ⟨v, e1, r1⟩ := rs.one
    obtain ⟨a, ws, e2, q, k⟩ := r1.tup_inv
    obtain ⟨ns, e3, e4⟩ := map_some e
    subst e4
    rw [intsT_map e3] at k
    rw [e1, e2]
    exact .inr ⟨a, ns, rfl, by rw [hK, ← k.ints]; exact sqT_mono S.sub q, PostG.here p S (Rep.of_int _)⟩
  · split at e
    · rename_i us hl
      obtain ⟨a, ws, e2, q, k⟩ := lst1_rep S hl rs
      obtain ⟨ns, e3, e4⟩ := map_some e
      subst e4
      rw [intsT_map e3] at k
      rw [e2]
      exact .inl ⟨a, ns, rfl, by rw [← k.ints]; exact SqL.of q, PostG.here p S (Rep.of_int _)⟩
    · cases e
theorem bl_all (hc : X.calm = true) : CallR X (.builtin "all") (rBl w pg .all) := by
  refine bl_of (cr_all hc) fun z H ts vs Q E tr S rs e p => ?_
  have e : allT z.st ts = some tr := e
  unfold allT at e
  split at e
  · rename_i us hl
    obtain ⟨a, ws, e2, q, k⟩ := lst1_rep S hl rs
    obtain ⟨ns, e3, e4⟩ := map_some e
    subst e4
    rw [blsT_map e3] at k
    rw [e2]
    exact ⟨a, ns, rfl, by rw [← k.bls]; exact SqL.of q, PostG.here p S (Rep.of_bl _)⟩
  · cases e
theorem bl_any (hc : X.calm = true) : CallR X (.builtin "any") (rBl w pg .any) := by
  refine bl_of (cr_any hc) fun z H ts vs Q E tr S rs e p => ?_
  have e : anyT z.st ts = some tr := e
  unfold anyT at e
  split at e
  · rename_i us hl
    obtain ⟨a, ws, e2, q, k⟩ := lst1_rep S hl rs
    obtain ⟨ns, e3, e4⟩ := map_some e
    subst e4
    rw [blsT_map e3] at k
    rw [e2]
    exact ⟨a, ns, rfl, by rw [← k.bls]; exact SqL.of q, PostG.here p S (Rep.of_bl _)⟩
  · cases e
theorem maxI_ge : ∀ (xs : List Int) (m : Int), m ≤ maxI xs m ∧ (∀ y ∈ xs, y ≤ maxI xs m) ∧ (maxI xs m = m ∨ maxI xs m ∈ xs)
  | [], m => ⟨Int.le_refl _, fun _ h => (nomatch h), .inl rfl⟩
  | x :: xs, m => by
    unfold maxI
    by_cases h : m < x
    · rw [if_pos h]
      obtain ⟨h1, h2, h3⟩ := maxI_ge xs x
      refine ⟨by omega, fun y hy => ?_, ?_⟩
      · rcases List.mem_cons.mp hy with e | hy
        · rw [e]; exact h1
        · exact h2 y hy
      · rcases h3 with h3 | h3
        · rw [h3]; exact .inr List.mem_cons_self
        · exact .inr (List.mem_cons_of_mem _ h3)
    · rw [if_neg h]
      obtain ⟨h1, h2, h3⟩ := maxI_ge xs m
      refine ⟨h1, fun y hy => ?_, ?_⟩
      · rcases List.mem_cons.mp hy with e | hy
        · rw [e]; omega
        · exact h2 y hy
      · rcases h3 with h3 | h3
        · exact .inl h3
        · exact .inr (List.mem_cons_of_mem _ h3)
theorem minI_le : ∀ (xs : List Int) (m : Int), minI xs m ≤ m ∧ (∀ y ∈ xs, minI xs m ≤ y) ∧ (minI xs m = m ∨ minI xs m ∈ xs)
  | [], m => ⟨Int.le_refl _, fun _ h => (nomatch h), .inl rfl⟩
  | x :: xs, m => by
    unfold minI
    by_cases h : x < m
    · rw [if_pos h]
      obtain ⟨h1, h2, h3⟩ := minI_le xs x
      refine ⟨by omega, fun y hy => ?_, ?_⟩
      · rcases List.mem_cons.mp hy with e | hy
        · rw [e]; exact h1
        · exact h2 y hy
      · rcases h3 with h3 | h3
        · rw [h3]; exact .inr List.mem_cons_self
        · exact .inr (List.mem_cons_of_mem _ h3)
    · rw [if_neg h]
      obtain ⟨h1, h2, h3⟩ := minI_le xs m
      refine ⟨h1, fun y hy => ?_, ?_⟩
      · rcases List.mem_cons.mp hy with e | hy
        · rw [e]; omega
        · exact h2 y hy
      · rcases h3 with h3 | h3
        · exact .inl h3
        · exact .inr (List.mem_cons_of_mem _ h3)
theorem tup1_inv {ts us : List T} (h : tup1 ts = some us) : ts = [.tup us] := by
  unfold tup1 at h
  split at h
  · cases h; rfl
  · cases h
theorem int_at {its : List Value} {ns : List Int} (hi : IntsAre its ns) (i : Nat) (v : Value) (h : its.toArray[i]? = some v) : ∃ t, v = .int (ns.getD i 0) t ∧ i < ns.length := by
  obtain ⟨xs,
          hx⟩ := hi.allInts.items
  have hn : numsOf its.toArray.toList = ns := by rw [show its.toArray.toList = its from rfl, hi.numsOf]
  have hx' : its.toArray = intItems xs := hx
  rw [hx'] at h hn
  rw [nums_intItems] at hn
  obtain ⟨t, e⟩ := intItems_at h
  have hi : i < xs.size := by
    have := (Array.getElem?_eq_some_iff.mp h).1
    rwa [intItems, Array.size_map] at this
  refine ⟨t, ?_, by rw [← hn]; simpa using hi⟩
  rw [e]
  congr 1
  unfold numAt
  rw [← hn, List.getD_eq_getElem?_getD]
  simp [hi]
theorem call_minT (hc : X.calm = true) : CallR X (.builtin "min") (fun vs H Q => ∃ (a : Addr) (ns : List Int), vs = [V.ref a] ∧ SqT X.K H a (ns.map V.int) ∧ 0 < ns.length ∧ ∀ m, m ∈ ns → (∀ j ∈ ns, m ≤ j) → Q (.int m) H) := by
  intro pins s σ
          H vs us Q I r h
  obtain ⟨a, ns, e, hs, hne, q⟩ := h
  subst e
  obtain ⟨its, rv, ht, _⟩ := I.tuple hs
  rw [Vals.ref1 r]
  have hi := rv.ints
  have hlt : a < s.heap.objs.size := let ⟨_, e, _⟩ := ht; Heap.lt_size e
  have hln : its.toArray.size = ns.length := by simpa using hi.length
  have ht : s.heap.IsTuple a its.toArray := ht
  refine call_min_walk (wpAny_pyIter_tuple ht ?_)
  refine ⟨_, _, _, _, _, _, _, rfl, Walks.tuple (A := X.A.in1) (I.ok.hd hc) s.heap.objs.size a (Nat.ne_of_lt hlt) its.toArray, ⟨⟨_, Heap.get?_push_size _ rfl, rfl, rfl⟩, ht.push _⟩, fun b hb => ?_, by rw [hln]; exact hne,
    CmpOf.ints_lt (fun i => ns.getD i 0) (fun i v hv => let ⟨t, e, _⟩ := int_at hi i v hv; ⟨t, e⟩), fun v h' tk hP hk => ?_⟩
  · show b < (s.heap.push
          _).objs.size
    rw [Heap.size_push]
    rcases List.mem_cons.mp
            hb with e | hb
    · rw [e]
      exact Nat.lt_succ_self _
    · rw [List.mem_singleton.mp
            hb]
      exact Nat.lt_succ_of_lt hlt
  · obtain ⟨t, rfl, hb⟩ := int_at hi _ v hP
    obtain ⟨b1, b2⟩ := argBest_lt (fun i => ns.getD i 0) (its.toArray.size - 1)
    refine ⟨.int _, H, I.kept (t' := tk) fun b u e => hk b u (fun hmem =>
            ?_) (Heap.get?_push_of_some _ e), ⟨t, rfl⟩, q _ ?_ fun j hj => ?_⟩
    · have e1 : b = s.heap.objs.size
            := List.mem_singleton.mp hmem
      have e2 := Heap.lt_size e
      rw [e1] at e2
      exact absurd e2
              (Nat.lt_irrefl _)
    · rw [List.getD_eq_getElem?_getD, List.getElem?_eq_getElem hb]
      exact List.getElem_mem hb
    · obtain ⟨i, hj', e⟩ := List.mem_iff_getElem.mp hj
      have e2 : ns.getD i 0 = j := by rw [List.getD_eq_getElem?_getD, List.getElem?_eq_getElem hj', ← e] <;> rfl
      rw [← e2]
      exact b2 i (by rw [hln]; omega)
theorem call_maxT (hc : X.calm = true) : CallR X (.builtin "max") (fun vs H Q => ∃ (a : Addr) (ns : List Int), vs = [V.ref a] ∧ SqT X.K H a (ns.map V.int) ∧ 0 < ns.length ∧ ∀ m, m ∈ ns → (∀ j ∈ ns, j ≤ m) → Q (.int m) H) := by
  intro pins s σ
          H vs us Q I r h
  obtain ⟨a, ns, e, hs, hne, q⟩ := h
  subst e
  obtain ⟨its, rv, ht, _⟩ := I.tuple hs
  rw [Vals.ref1 r]
  have hi := rv.ints
  have hlt : a < s.heap.objs.size := let ⟨_, e, _⟩ := ht; Heap.lt_size e
  have hln : its.toArray.size = ns.length := by simpa using hi.length
  have ht : s.heap.IsTuple a its.toArray := ht
  refine call_max_walk (wpAny_pyIter_tuple ht ?_)
  refine ⟨_, _, _, _, _, _, _, rfl, Walks.tuple (A := X.A.in1) (I.ok.hd hc) s.heap.objs.size a (Nat.ne_of_lt hlt) its.toArray, ⟨⟨_, Heap.get?_push_size _ rfl, rfl, rfl⟩, ht.push _⟩, fun b hb => ?_, by rw [hln]; exact hne,
    CmpOf.ints_gt (fun i => ns.getD i 0) (fun i v hv => let ⟨t, e, _⟩ := int_at hi i v hv; ⟨t, e⟩), fun v h' tk hP hk => ?_⟩
  · show b < (s.heap.push
          _).objs.size
    rw [Heap.size_push]
    rcases List.mem_cons.mp
            hb with e | hb
    · rw [e]
      exact Nat.lt_succ_self _
    · rw [List.mem_singleton.mp
            hb]
      exact Nat.lt_succ_of_lt hlt
  · obtain ⟨t, rfl, hb⟩ := int_at hi _ v hP
    obtain ⟨b1, b2⟩ := argBest_gt (fun i => ns.getD i 0) (its.toArray.size - 1)
    refine ⟨.int _, H, I.kept (t' := tk) fun b u e => hk b u (fun hmem =>
            ?_) (Heap.get?_push_of_some _ e), ⟨t, rfl⟩, q _ ?_ fun j hj => ?_⟩
    · have e1 : b = s.heap.objs.size
            := List.mem_singleton.mp hmem
      have e2 := Heap.lt_size e
      rw [e1] at e2
      exact absurd e2
              (Nat.lt_irrefl _)
    · rw [List.getD_eq_getElem?_getD, List.getElem?_eq_getElem hb]
      exact List.getElem_mem hb
    · obtain ⟨i, hj', e⟩ := List.mem_iff_getElem.mp hj
      have e2 : ns.getD i 0 = j := by rw [List.getD_eq_getElem?_getD, List.getElem?_eq_getElem hj', ← e] <;> rfl
      rw [← e2]
      exact b2 i (by rw [hln]; omega)
theorem minI_uni {x m : Int} {xs : List Int} (hm : m ∈ x :: xs) (hle : ∀ j ∈ x :: xs, m ≤ j) : m = minI xs x := by
  obtain ⟨h1, h2, h3⟩ := minI_le xs x
  have a1 : m ≤ minI xs x := hle _ (by
    rcases h3 with h3 | h3
    · rw [h3]; exact List.mem_cons_self
    · exact List.mem_cons_of_mem _ h3)
  have a2 : minI xs x ≤ m := by
    rcases List.mem_cons.mp
            hm with e | hm
    · rw [e]; exact h1
    · exact h2 m hm
  omega
theorem maxI_uni {x m : Int} {xs : List Int} (hm : m ∈ x :: xs) (hle : ∀ j ∈ x :: xs, j ≤ m) : m = maxI xs x := by
  obtain ⟨h1, h2, h3⟩ := maxI_ge xs x
  have a1 : maxI xs x ≤ m := hle _ (by
    rcases h3 with h3 | h3
    · rw [h3]; exact List.mem_cons_self
    · exact List.mem_cons_of_mem _ h3)
  have a2 : m ≤ maxI xs x := by
    rcases List.mem_cons.mp
            hm with e | hm
    · rw [e]; exact h1
    · exact h2 m hm
  omega
theorem bl_maxL (hK : X.K = w.K) (hc : X.calm = true) : CallR X (.builtin "max") (rBl w pg .maxL) := by
  refine bl_of ((cr_max hc).or (call_maxT hc)) fun z H ts vs Q E tr S rs e0 p => ?_
  have e : maxT z.st ts = some tr := e0
  clear e0
  unfold maxT at e
  split at e
  · rename_i us hl
    have := tup1_inv hl
    subst this
    obtain ⟨v, e1, r1⟩ := rs.one
    obtain ⟨a, ws, e2, q, k⟩ := r1.tup_inv
    split at e
    · rename_i x xs e3
      cases e
      rw [intsT_map e3] at k
      rw [e1, e2]
      refine .inr ⟨a, x :: xs, rfl, by rw [hK, ← k.ints]; exact sqT_mono S.sub q, Nat.succ_pos _, fun m hm hle => ?_⟩
      rw [maxI_uni hm hle]
      exact PostG.here p S (Rep.of_int _)
    · cases e
  · split at e
    · rename_i us hl
      obtain ⟨a, ws, e2, q, k⟩ := lst1_rep S hl rs
      split at e
      · rename_i x xs e3
        cases e
        rw [intsT_map e3] at k
        rw [e2]
        refine .inl ⟨a, x :: xs, rfl, by rw [← k.ints]; exact SqL.of q, Nat.succ_pos _, fun m hm hle => ?_⟩
        rw [maxI_uni hm hle]
        exact PostG.here p S (Rep.of_int _)
      · cases e
    · cases e
theorem bl_minL (hK : X.K = w.K) (hc : X.calm = true) : CallR X (.builtin "min") (rBl w pg .minL) := by
  refine bl_of ((cr_min hc).or (call_minT hc)) fun z H ts vs Q E tr S rs e0 p => ?_
  have e : minT z.st ts = some tr := e0
  clear e0
  unfold minT at e
  split at e
  · rename_i us hl
    have := tup1_inv hl
    subst this
    obtain ⟨v, e1, r1⟩ := rs.one
    obtain ⟨a, ws, e2, q, k⟩ := r1.tup_inv
    split at e
    · rename_i x xs e3
      cases e
      rw [intsT_map e3] at k
      rw [e1, e2]
      refine .inr ⟨a, x :: xs, rfl, by rw [hK, ← k.ints]; exact sqT_mono S.sub q, Nat.succ_pos _, fun m hm hle => ?_⟩
      rw [minI_uni hm hle]
      exact PostG.here p S (Rep.of_int _)
    · cases e
  · split at e
    · rename_i us hl
      obtain ⟨a, ws, e2, q, k⟩ := lst1_rep S hl rs
      split at e
      · rename_i x xs e3
        cases e
        rw [intsT_map e3] at k
        rw [e2]
        refine .inl ⟨a, x :: xs, rfl, by rw [← k.ints]; exact SqL.of q, Nat.succ_pos _, fun m hm hle => ?_⟩
        rw [minI_uni hm hle]
        exact PostG.here p S (Rep.of_int _)
      · cases e
    · cases e
theorem bl_max2 (hc : X.calm = true) : CallR X (.builtin "max") (rBl w pg .max2) := by
  refine bl_of (call_max2 hc) fun z H ts vs Q E tr S rs e p => ?_
  have e : max2T ts = some tr := e
  unfold max2T at e
  split at e
  · obtain ⟨v, x, e1, r1, r2⟩ := rs.two
    rw [e1, r1.int_inv, r2.int_inv]
    cases e
    exact ⟨_, _, rfl, PostG.here p S (Rep.of_int _)⟩
  · cases e
theorem bl_min2 (hc : X.calm = true) : CallR X (.builtin "min") (rBl w pg .min2) := by
  refine bl_of (call_min2 hc) fun z H ts vs Q E tr S rs e p => ?_
  have e : min2T ts = some tr := e
  unfold min2T at e
  split at e
  · obtain ⟨v, x, e1, r1, r2⟩ := rs.two
    rw [e1, r1.int_inv, r2.int_inv]
    cases e
    exact ⟨_, _, rfl, PostG.here p S (Rep.of_int _)⟩
  · cases e
theorem bl_tuple (hK : X.K = w.K) : CallR X (.type "tuple") (rBl w pg .tuple) := by
  refine bl_of call_tuple_of fun z H ts vs Q E tr S rs e p => ?_
  have e : tupT z.st ts = some tr := e
  unfold tupT at e
  split at e
  · obtain ⟨v, e1, r1⟩ := rs.one
    obtain ⟨a, ws, e2, q, k⟩ := r1.tup_inv
    cases e
    rw [e1, e2]
    exact ⟨a, ws, rfl, .inr ⟨by rw [hK]; exact sqT_mono S.sub q, post_tupR (E := E) p S q k⟩⟩
  · obtain ⟨us, hl, e3⟩ := map_some e
    obtain ⟨a, ws, e2, q, k⟩ := lst1_rep S hl rs
    subst e3
    rw [e2]
    exact ⟨a, ws, rfl, .inl ⟨SqL.of q, post_tup (E := E) p S k⟩⟩
theorem bl_list (hK : X.K = w.K) : CallR X (.type "list") (rBl w pg .list) := by
  refine bl_of call_list_of fun z H ts vs Q E tr S rs e p => ?_
  have e : listT z.st ts = some tr := e
  unfold listT at e
  split at e
  · obtain ⟨v, e1, r1⟩ := rs.one
    obtain ⟨a, ws, e2, q, k⟩ := r1.tup_inv
    cases e
    rw [e1, e2]
    exact ⟨a, ws, rfl, .inr (by rw [hK]; exact sqT_mono S.sub q), post_lst (E := E) p S k⟩
  · obtain ⟨us, hl, e3⟩ := map_some e
    obtain ⟨a, ws, e2, q, k⟩ := lst1_rep S hl rs
    subst e3
    rw [e2]
    exact ⟨a, ws, rfl, .inl (SqL.of q), post_lst (E := E) p S k⟩
theorem bl_int : CallR X (.type "int") (rBl w pg .int) := by
  refine bl_of (call_int1.or call_int_str) fun z H ts vs Q E tr S rs e p => ?_
  have e : intT ts = some tr := e
  unfold intT at e
  split at e
  · obtain ⟨v, e1, r1⟩ := rs.one
    rw [e1, r1.int_inv]
    cases e
    exact .inl (.inl ⟨_, rfl, PostG.here p S (Rep.of_int _)⟩)
  · obtain ⟨v, e1, r1⟩ := rs.one
    rw [e1, r1.bl_inv]
    cases e
    exact .inl (.inr ⟨_, rfl, PostG.here p S (Rep.of_int _)⟩)
  · obtain ⟨v, e1, r1⟩ := rs.one
    rw [e1, r1.str_inv]
    obtain ⟨c, e⟩ := ite_is e
    obtain ⟨n, e2, e3⟩ := map_some e
    subst e3
    exact .inr ⟨_, n, rfl, e2, by rw [str_len]; exact c, PostG.here p S (Rep.of_int _)⟩
  · cases e
theorem bl_str : CallR X (.type "str") (rBl w pg .str) := by
  refine bl_of SkE.call_str_str fun z H ts vs Q E tr S rs e p => ?_
  have e : strT ts = some tr := e
  unfold strT at e
  split at e
  · obtain ⟨v, e1, r1⟩ := rs.one
    rw [e1, r1.str_inv]
    cases e
    exact ⟨_, rfl, PostG.here p S (Rep.of_str _)⟩
  · cases e
theorem bl_abs : CallR X (.builtin "abs") (rBl w pg .abs) := by
  refine bl_of call_abs fun z H ts vs Q E tr S rs e p => ?_
  have e : absT ts = some tr := e
  unfold absT at e
  split at e
  · obtain ⟨v, e1, r1⟩ := rs.one
    rw [e1, r1.int_inv]
    cases e
    exact ⟨_, rfl, PostG.here p S (Rep.of_int _)⟩
  · cases e
theorem bl_divmod : CallR X (.builtin "divmod") (rBl w pg .divmod) := by
  refine bl_of call_divmodW fun z H ts vs Q E tr S rs e p => ?_
  have e : divT ts = some tr := e
  unfold divT at e
  split at e
  · obtain ⟨v, x, e1, r1, r2⟩ := rs.two
    rw [e1, r1.int_inv, r2.int_inv]
    obtain ⟨c, e⟩ := ite_is e
    cases e
    refine ⟨_, _, rfl, ⟨c.1, PyProof.noPylong_of_log2 (log2_2000 c.1 c.2).2⟩, post_tup (E := E) p S ?_⟩
    exact .cons (Rep.of_int _) (.cons (Rep.of_int _) .nil)
  · cases e
/-! ### sorted texts -/
theorem insS_perm (x : List Nat) : ∀ ys, (insS x ys).Perm (x :: ys)
  | [] => .refl _
  | y :: ys => by
    unfold insS
    split
    · exact .refl _
    · exact ((insS_perm x ys).cons y).trans (.swap x y ys)
theorem sortS_perm : ∀ xs, (sortS xs).Perm xs
  | [] => .refl _
  | x :: xs => (insS_perm x (sortS xs)).trans ((sortS_perm xs).cons x)
theorem strLt_cps : ∀ a b : List Nat, ltCps a b = strLt a b
  | [], [] => rfl
  | [], _ :: _ => rfl
  | _ :: _, [] => rfl
  | a :: as, b :: bs => by
    simp only [ltCps, strLt]
    rw [strLt_cps as bs]
    by_cases h : a < b
    · simp [h]
    · by_cases e : a = b
      · simp [e]
      · simp [h, e]
theorem strLt_irrefl (a : List Nat) : strLt a a = false := by rw [strLt_lt]; simp
theorem strLt_trans {a b c : List Nat} (h : strLt a b = true) (k : strLt b c = true) : strLt a c = true := by
  rw [strLt_lt, decide_eq_true_eq] at *
  exact List.lt_trans h k
theorem strLt_total {a b : List Nat} (h : strLt a b = false) (k : strLt b a = false) : a = b := by
  rw [strLt_lt, decide_eq_false_iff_not] at *
  exact List.le_antisymm (List.not_lt.mp k) (List.not_lt.mp h)
theorem le_trans_s {a b c : List Nat} (h : strLt b a = false) (k : strLt c b = false) : strLt c a = false := by
  cases e : strLt c a with
  | false => rfl
  | true =>
    cases e2 : strLt b c with
    | true => rw [strLt_trans e2 e] at h; cases h
    | false =>
      have := strLt_total e2 k
      subst this
      rw [e] at h
      cases h
theorem insS_sorted (x : List Nat) : ∀ ys, ys.Pairwise (fun a b => strLt b a = false) → (insS x ys).Pairwise (fun a b => strLt b a = false)
  | [], _ => List.pairwise_singleton _ _
  | y :: ys, h => by
    unfold insS
    obtain ⟨h1,
            h2⟩ := List.pairwise_cons.mp h
    by_cases e : strLt x y = true
    · rw [if_pos e]
      have xy : strLt y x = false := by
        cases q : strLt y x with
        | false => rfl
        | true =>
          have := strLt_trans e q
          rw [strLt_irrefl] at this
          cases this
      refine List.pairwise_cons.mpr ⟨fun z hz => ?_, h⟩
      rcases List.mem_cons.mp hz with e2 | hz
      · rw [e2]; exact xy
      · exact le_trans_s xy (h1 z hz)
    · rw [if_neg e]
      refine List.pairwise_cons.mpr ⟨fun z hz => ?_, insS_sorted x ys h2⟩
      rcases List.mem_cons.mp ((insS_perm x ys).mem_iff.mp hz) with e2 | hz
      · rw [e2]; simpa using e
      · exact h1 z hz
theorem sortS_sorted : ∀ xs, (sortS xs).Pairwise (fun a b => strLt b a = false)
  | [] => List.Pairwise.nil
  | x :: xs => insS_sorted x _ (sortS_sorted xs)
theorem risingS_pw : ∀ (p : Str) (l : List Str), risingS p l = true → (p :: l).Pairwise (fun a b => ltCps b.cps.toList a.cps.toList = false)
  | p, [], _ => List.pairwise_singleton _ _
  | p, x :: l, h => by
    simp only [risingS, Bool.and_eq_true, Bool.not_eq_true'] at h
    have ih := risingS_pw x l h.2
    refine List.pairwise_cons.mpr ⟨fun z hz => ?_, ih⟩
    rcases List.mem_cons.mp
            hz with e | hz
    · rw [e]; exact h.1
    · have h1 := (List.pairwise_cons.mp ih).1 z hz
      have h2 := h.1
      rw [strLt_cps] at h1 h2 ⊢
      exact le_trans_s h2 h1
theorem sortedS_pw : ∀ (l : List Str), sortedS l = true → l.Pairwise (fun a b => ltCps b.cps.toList a.cps.toList = false)
  | [], _ => List.Pairwise.nil
  | x :: l, h => risingS_pw x l h
theorem sorted_is {xs : List (List Nat)} {ys : List Str} (p : ys.Perm (xs.map strN)) (h : sortedS ys = true) : ys = (sortS xs).map strN := by
  have p2 : ys.Perm ((sortS xs).map strN) := p.trans ((sortS_perm xs).map strN).symm
  refine List.Perm.eq_of_pairwise (le := fun a b => ltCps b.cps.toList a.cps.toList = false) (fun x y _ _ h1 h2 => ?_) (sortedS_pw ys h) ?_ p2
  · rw [strLt_cps] at h1 h2
    have := strLt_total h2 h1
    obtain ⟨⟨a⟩⟩ := x
    obtain ⟨⟨b⟩⟩ := y
    have e : a = b := this
    rw [e]
  · refine List.Pairwise.map strN (fun a b hab => ?_) (sortS_sorted xs)
    rw [strLt_cps]
    exact hab
theorem ksS_map : ∀ {ks : List Ky} {xs : List (List Nat)}, ksS ks = some xs → ks = xs.map Ky.s
  | [], xs, h => by cases h; rfl
  | .s x :: ks, xs, h => by
    simp only [ksS] at h
    obtain ⟨r, h1, h2⟩ := map_some h
    rw [ksS_map h1, ← h2]
    rfl
  | .i _ :: _, _, h => by cases h
end
/-! ### isinstance -/
def Ck.val (w : Wd) : Ck → Value
  | .ty n => .type n
  | .cls c => .ref (w.ad c)
/-- what isinstance leans on: the table's answers, and the classes' own facts -/
structure KitOk (w : Wd) (pg : Pg) : Prop where
  kit : ∀ a b r, (a, b, r) ∈ pg.kit → PySem.W.kitOne w.K (a.val w) (b.val w) = some r
  cls : ∀ c b r, (Ck.cls c, b, r) ∈ pg.kit → Cls w.K (w.ad c) ∧ PySem.W.findIn w.K (.ref (w.ad c)) "__class__" = some (some (.builtin "object.__class__")) ∧
    PySem.W.specialIn w.K (.builtin "object.__class__") "__get__" = some (some (.builtin "getset_descriptor.__get__")) ∧ PySem.W.takesIn w.K (.builtin "object.__class__") = some true ∧ PySem.W.mroIn w.K (w.ad c) (.type "object") = some true
  own : ∀ c ∈ pg.own, PySem.W.findIn w.K (.ref (w.ad c)) "__bool__" = some none ∧ PySem.W.findIn w.K (.ref (w.ad c)) "__ne__" = some (some (.builtin "object.__ne__")) ∧ PySem.W.mroIn w.K (w.ad c) (.type "object") = some true
theorem lookC_mem {a b : Ck} {r : Bool} : ∀ {l : List (Ck × Ck × Bool)}, lookC a b l = some r → (a, b, r) ∈ l
  | [], h => by cases h
  | (x, y, q) :: l, h => by
    simp only [lookC] at h
    by_cases e : x = a ∧ y = b
    · rw [if_pos e] at h
      obtain ⟨rfl, rfl⟩ := e
      cases h
      exact List.mem_cons_self
    · rw [if_neg e] at h
      exact List.mem_cons_of_mem _ (lookC_mem h)
section
variable {X : Cx} {w : Wd} {pg : Pg}
theorem tyX_of (hK : X.K = w.K) {z : Z} {H : Hp} (S : StRel w z H) {t : T} {v : V} {m : String} (h : tyName z.st t = some m) (r : Rep w z.as z.hm t v) : TyX X.K H v (.type m) := by
  unfold tyName at h
  split at h
  · cases h; rw [r.non_inv]; exact .base .non
  · cases h; rw [r.bl_inv]; exact .base (.bl _)
  · cases h; rw [r.int_inv]; exact .base (.int _)
  · cases h; rw [r.str_inv]; exact .base (.str _)
  · cases h
    obtain ⟨a, vs, e, q, k⟩ := r.tup_inv
    rw [e]
    rcases q with (q | ⟨o, q⟩) | ⟨o, its, n, h1, h2, _⟩
    · exact .base (.tup (S.sub _ _ q))
    · exact .fTuple (S.sub _ _ q)
    · rw [hK]
      exact .kTuple h1 h2
  · split at h
    · rename_i us hl
      cases h
      obtain ⟨a, vs, e, q, k⟩ := lstOf_rep S hl r
      rw [e]
      exact .base (.lst q)
    · split at h
      · rename_i d hd
        cases h
        obtain ⟨ks, ts⟩ := d
        obtain ⟨a, kvs, e, q, m, k⟩ := dicOf_rep S hd r
        rw [e]
        exact .base (.dK q)
      · cases h
/-! repr -/
theorem log_small {i : Int} (h : i.natAbs < 10 ^ 60) : i.natAbs.log2 < 200 := by
  by_cases h0 : i.natAbs = 0
  · rw [h0]; decide
  · exact (Nat.log2_lt h0).mpr (Nat.lt_trans h (by decide))
mutual
theorem wgt_toD : ∀ (t : T), t.okR = true → (toD t).weight ≤ t.wgt ∧ (toD t).showable = true ∧ (toD t).hasDict = false
  | .non, _ => by simp [toD, PyData.weight, PyData.showable, PyData.hasDict]
  | .bl _, _ => by simp [toD, PyData.weight, PyData.showable, PyData.hasDict]
  | .int i, h => by
    have h : i.natAbs < 10 ^ 60 := of_decide_eq_true h
    have l := log_small h
    refine ⟨?_, ?_, by simp [toD, PyData.hasDict]⟩
    · simp only [toD, PyData.weight, T.wgt]
      split <;> omega
    · simp only [toD, PyData.showable, decide_eq_true_eq]
      omega
  | .str cs, _ => by simp [toD, PyData.weight, PyData.showable, PyData.hasDict, T.wgt]
  | .tup ts, h => by
    have q := wgts_toD ts h
    simpa only [toD, PyData.weight, PyData.showable, PyData.hasDict, T.wgt] using q
  | .lst ts, h => by
    have q := wgts_toD ts h
    simpa only [toD, PyData.weight, PyData.showable, PyData.hasDict, T.wgt] using q
  | .ty _, h => absurd h Bool.false_ne_true
  | .gl _, h => absurd h Bool.false_ne_true
  | .dic _ _, h => absurd h Bool.false_ne_true
  | .ins _ _ _, h => absurd h Bool.false_ne_true
  | .scr _, h => absurd h Bool.false_ne_true
  | .cell _, h => absurd h Bool.false_ne_true
theorem wgts_toD : ∀ (ts : List T), T.okRs ts = true → PyData.weightAll (toDs ts) ≤ T.wgts ts ∧ PyData.showableAll (toDs ts) = true ∧ PyData.hasDictAll (toDs ts) = false
  | [], _ => by simp [toDs, PyData.weightAll, PyData.showableAll, PyData.hasDictAll]
  | t :: ts, h => by
    obtain ⟨h1, h2⟩ := Bool.and_eq_true_iff.mp (show (t.okR && T.okRs ts) = true from h)
    obtain ⟨a1, a2, a3⟩ := wgt_toD t h1
    obtain ⟨b1, b2, b3⟩ := wgts_toD ts h2
    simp only [toDs, PyData.weightAll, PyData.showableAll, PyData.hasDictAll, T.wgts, a2, a3, b2, b3, Bool.and_self, Bool.or_self, and_self, and_true]
    omega
end
mutual
theorem short_toD : ∀ (n : Nat) (t : T), t.okR = true → t.dat n = true → (toD t).leavesShort 61 = true
  | _, .non, _, _ => by simp [toD, PyData.leavesShort]
  | _, .bl _, _, _ => by simp [toD, PyData.leavesShort]
  | _, .int i, h, _ => by
    have h : i.natAbs < 10 ^ 60 := of_decide_eq_true h
    have l := int_text_length_le10 (k := 60) (by decide) h
    have q : (PyData.shown (.int i)).length ≤ 61 := by
      have e : PyData.shown (.int i) = Str.ofString (toString i) := by unfold PyData.shown; rfl
      rw [e, PySem.ofString_length]
      exact l
    simp only [toD, PyData.leavesShort]
    exact decide_eq_true q
  | _, .str cs, _, h => by
    have h : (cs.all fun c => decide (c < 1114112)) = true := by simpa [T.dat] using h
    rw [List.all_eq_true] at h
    simp only [toD, PyData.leavesShort, List.all_eq_true, decide_eq_true_eq]
    intro c hc
    have q := of_decide_eq_true (h c (by simpa using hc))
    exact Nat.lt_trans q (by decide)
  | 0, .tup ts, _, h => by simp [T.dat] at h
  | 0, .lst ts, _, h => by simp [T.dat] at h
  | n + 1, .tup ts, h, d => by
    have q := shorts_toD n ts h (by simpa [T.dat] using d)
    simpa only [toD, PyData.leavesShort] using q
  | n + 1, .lst ts, h, d => by
    have q := shorts_toD n ts h (by simpa [T.dat] using d)
    simpa only [toD, PyData.leavesShort] using q
  | _, .ty _, h, _ => absurd h Bool.false_ne_true
  | _, .gl _, h, _ => absurd h Bool.false_ne_true
  | _, .dic _ _, h, _ => absurd h Bool.false_ne_true
  | _, .ins _ _ _, h, _ => absurd h Bool.false_ne_true
  | _, .scr _, h, _ => absurd h Bool.false_ne_true
  | _, .cell _, h, _ => absurd h Bool.false_ne_true
theorem shorts_toD : ∀ (n : Nat) (ts : List T), T.okRs ts = true → T.dats n ts = true → PyData.leavesShortAll 61 (toDs ts) = true
  | _, [], _, _ => by simp [toDs, PyData.leavesShortAll]
  | n, t :: ts, h, d => by
    obtain ⟨h1, h2⟩ := Bool.and_eq_true_iff.mp (show (t.okR && T.okRs ts) = true from h)
    obtain ⟨d1, d2⟩ := Bool.and_eq_true_iff.mp (show (t.dat n && T.dats n ts) = true by simpa [T.dats] using d)
    simp only [toDs, PyData.leavesShortAll, short_toD n t h1 d1, shorts_toD n ts h2 d2, Bool.and_self]
end
theorem bl_repr (hK : X.K = w.K) (hu : X.A.units + 65 < cLine) (hg : X.A.guards = some []) : CallR X (.builtin "repr") (rBl w pg .repr) := by
  intro pins s σ H xs us Q I rr ⟨z, ts, E, S, rs, p⟩
  obtain ⟨tr, e, p⟩ := post_is p
  have e : reprT ts = some tr := e
  match ts, rs, e with
  | [], _, e => cases e
  | _ :: _ :: _, _, e => cases e
  | [t], rs, e =>
    obtain ⟨v, e1, r1⟩ := rs.one
    subst e1
    have e : (if reprOk t = true then some (T.str (shC t)) else none) = some tr := e
    obtain ⟨c, e⟩ := ite_is e
    cases e
    unfold reprOk at c
    rw [Bool.and_eq_true, Bool.and_eq_true, decide_eq_true_eq] at c
    obtain ⟨⟨c1, c2⟩, c3⟩ := c
    obtain ⟨w1, w2, w3⟩ := wgt_toD t c2
    have w4 := short_toD 20 t c2 c1
    have len : (PyData.shown (toD t)).length ≤ sizeLine := by
      have q := PyData.shown_le 61 (by decide) (toD t) w4
      rw [← big_line]
      show _ ≤ 16777216
      omega
    have dep := (dat_lay 20 t c1).2
    have fin : Q (.str (PyData.shown (toD t))) H := by
      have q := PostG.here (rel := rT w) p S (Rep.of_str (shC t))
      have e : (⟨(shC t).toArray⟩ : Str) = PyData.shown (toD t) := by
        unfold shC
        rw [Array.toArray_toList]
      rw [e] at q
      exact q
    obtain ⟨u, rfl, ru⟩ := vals1 rr
    have dp : Dp X.K H v (toD t) := by rw [hK]; exact Rep.dp S.sub 20 t v c1 r1
    obtain ⟨as, rd⟩ := Dp.reads I (toD t) v u dp ru
    have big : ∀ a : Addr, u = .ref a → wpAny (model X.prog X.w) X.A (call (.builtin "repr") [u]) (EP X pins σ Q) X.xe s := by
      intro a ha
      subst ha
      refine repr_of_reads' rd w2 (fun z => by rw [w3] at z; cases z) hg (by omega) (fun b o h => h) (fun h' tk t' k => ?_) len
      exact ⟨.str _, H, I.kept (t' := t') k, ⟨tk, rfl⟩, fin⟩
    cases t with
    | non => cases r1.non_inv; cases ru; exact PySem.P.repr_of_none ⟨.str _, H, I.tok _, ⟨_, rfl⟩, fin⟩
    | bl b =>
      cases r1.bl_inv; cases ru
      refine PySem.P.repr_of_bool ⟨.str _, H, I.tok _, ⟨_, rfl⟩, ?_⟩
      cases b <;> exact fin
    | int i =>
      cases r1.int_inv
      obtain ⟨tk, rfl⟩ := ru
      have h : i.natAbs < 10 ^ 60 := of_decide_eq_true c2
      exact PySem.P.repr_of_int (Nat.lt_trans (log_small h) (by decide)) ⟨.str _, H, I.tok _, ⟨_, rfl⟩, fin⟩
    | str cs =>
      cases r1.str_inv
      obtain ⟨tk, rfl⟩ := ru
      exact PySem.P.repr_of_str ⟨.str _, H, I.tok _, ⟨_, rfl⟩, fin⟩ len
    | tup ts =>
      obtain ⟨a, vs, rfl, _, _⟩ := r1.tup_inv
      cases ru
      exact big a rfl
    | lst ts =>
      obtain ⟨a, vs, rfl, _, _⟩ := r1.lst_inv
      cases ru
      exact big a rfl
    | _ => exact absurd c2 Bool.false_ne_true
theorem bl_isi (hK : X.K = w.K) (ok : KitOk w pg) : CallR X (.builtin "isinstance") (rBl w pg .isi) := by
  refine bl_of call_isi fun z H ts vs Q E tr S rs e p => ?_
  have e : isiTs pg z.st ts = some tr := e
  unfold isiTs at e
  split at e
  · rename_i x c
    obtain ⟨v, u, e1, r1, r2⟩ := rs.two
    obtain ⟨b, e2, e3⟩ := map_some e
    subst e3
    unfold isiT at e2
    split at e2
    · rename_i a ha
      split at e2
      · rename_i k hk
        have hm := lookC_mem e2
        have hkit := ok.kit a k b hm
        have hc : ∃ cv, u = cv ∧ ClsV u (k.val w) := by
          unfold ckC at hk
          split at hk
          · cases hk
            unfold Rep at r2
            exact ⟨_, rfl, by rw [r2]; exact .ty _⟩
          · cases hk
            unfold Rep at r2
            exact ⟨_, rfl, by rw [r2]; exact .own _⟩
          · cases hk
        obtain ⟨_, _, hcl⟩ := hc
        have hty : TyX X.K H v (a.val w) := by
          unfold ckOf at ha
          split at ha
          · rename_i m hm2
            cases ha
            exact tyX_of hK S hm2 r1
          · split at ha
            · rename_i c' fs us hi
              cases ha
              obtain ⟨ad, dx, kvs, e5, q, _, _⟩ := insOf_rep S hi r1
              obtain ⟨f1, f2, f3, f4, f5⟩ := ok.cls c' k b hm
              rw [e5, hK]
              exact .base (.ins q f1 f2 f3 f4 f5)
            · cases ha
        rw [e1]
        exact ⟨v, u, _, _, b, rfl, hcl, hty, by rw [hK]; exact hkit, PostG.here p S (Rep.of_bl _)⟩
      · cases e2
    · cases e2
  · cases e
end
end Mu
end
section
set_option Elab.async false
set_option linter.all false
set_option maxRecDepth 100000
set_option maxHeartbeats 4000010
/-! Mu, part S: sorted of data of any kind; tuples compared. -/
namespace Mu
open PySem PySem.Spec PyProof.Rows L2 PySem.W PySem.SeqAt
theorem call_tuple_lt {prog : Program} {W' : World} {A : Around} {s : Shared} {E : Value → Shared → Prop} {Q : Value → Shared → Prop} {l b : Addr} {items items2 : Array Value} {e r : Nat → Bool} (hl : s.heap.IsTuple l items) (hb : s.heap.IsTuple b items2)
    (he : ∀ j (h1 : j < items.size) (h2 : j < items2.size), EqAt A.in1 s items[j] items2[j] (e j)) (hr :
            ∀ j (h1 : j < items.size) (h2 : j < items2.size), e j = false → RcLt A.in1 s items[j] items2[j] (r j))
    (h : Q (.bool (firstLt e r (decide (items.size < items2.size)) (List.range (min items.size items2.size)))) s) : wpAny (model prog W') A (call (.builtin "tuple.__lt__") [.ref l, .ref b]) Q E s := by
  obtain ⟨⟨cls, dd, data, sl⟩,
          ho, hc, n, hd⟩ := id hl
  obtain ⟨⟨cls2, dd2, data2, sl2⟩,
          ho2, hc2, n2, hd2⟩ := id hb
  simp only at hc hd hc2 hd2
  subst hc hd hc2 hd2
  exact call_meets F.slot_tuple_lt ⟨_, ho, rfl⟩ F.entry_tuple_lt (F.args_tuple_lt_2 _ _) (tuple_ltAt l b items items2 n n2 dd dd2 sl sl2 e r) ⟨ho, ho2, he, hr, h⟩
theorem oneLt_tup {prog : Program} {W' : World} {A : Around} {s : Shared} {E : Value → Shared → Prop} {xs ys : List PyData} {a b : Value} {as bs : List Addr} {Q : Bool → Shared → Prop} (ra : Reads s.heap a (.tuple xs) as) (rb : Reads s.heap b (.tuple ys) bs) (h : alike (.tuple xs) (.tuple ys) = true)
    (hu : A.units + min (PyData.tuple xs).depth (PyData.tuple ys).depth < cLine) (hq : Q (dataLt (.tuple xs) (.tuple ys)) s) : wpAny (model prog W') A (oneLt' true a b) Q E s := by
  have hal : alikeAll xs ys = true
          := by simpa [alike] using h
  cases ra with
  | @tuple l o vs n _
          as₁ h1 h2 h3 h4 =>
    cases rb with
    | @tuple l' o' vs' n'
            _ bs₁ k1 k2 k3 k4 =>
      have n1 : vs.size = xs.length :=
              by simpa using ReadsAll.length _ _ _ h4
      have n2 : vs'.size = ys.length :=
              by simpa using ReadsAll.length _ _ _ k4
      rw [dataLt_tuple, ← firstLt_toks xs ys hal, ← n1, ← n2] at hq
      rw [oneLt'_eq]
      simp only [if_true]
      refine wpAny_bind (wpAny_cRoomFor
              (room_here hu) ?_)
      refine wpAny_bind (wpAny_callSpecialIfBound?_slot (T := "tuple") ⟨_, h1, h2⟩ F.slot_tuple_lt (call_tuple_lt (e := pairEq xs ys) (r := fun j => dataLt (xs.getD j .none) (ys.getD j .none)) ⟨_, h1, h2, _, h3⟩ ⟨_, k1, k2, _, k3⟩ (fun j j1 j2 => ?_) (fun j j1 j2 hj => ?_) ?_))
      · have := eqAt_alikeAll xs ys A.in1 s vs.toList vs'.toList _ _
              h4 k4 hal (room_in hu) j (by simpa using j1) (by simpa using j2)
        simpa using this
      · have := rcLt_alikeAll xs ys A.in1 s vs.toList vs'.toList _ _ h4
              k4 hal (room_in hu) j (by simpa using j1) (by simpa using j2) hj
        simpa using this
      · exact wpAny_truthy_bool hq
/-- the kind of keys, where the first one is an empty tuple and the others tuples -/
theorem firsts_some {M : Model} {A : Around} {E : Value → Shared → Prop} {s : Shared} : ∀ (vs : List Value) {Q : List (Option Value) → Shared → Prop}, (∀ v ∈ vs, ∃ xs as, Reads s.heap v (.tuple xs) as) → (∀ fs, fs.length = vs.length → (∀ v as, vs.head? = some v → Reads s.heap v (.tuple []) as → fs.head? = some none) → Q fs s) → wpAny M A (vs.mapM firstOfTuple') Q E s
  | [], Q, _, h => by rw [List.mapM_nil]; exact wpAny_pure (h [] rfl fun v as e => by cases e)
  | v :: vs, Q, t, h => by
    obtain ⟨xs, as, r⟩ := t v List.mem_cons_self
    cases r with
    | @tuple a o its n _ _ ho hc hd hr =>
      rw [List.mapM_cons]
      refine wpAny_bind ?_
      rw [kas_first_eq]
      refine wpAny_bind (Looks.here (show Looks M s.heap (typeOf
              (.ref a)) o.cls from (Looks.ld ho).andThen .now) ?_)
      rw [hc,
              if_neg (by first | decide | simp)]
      refine wpAny_bind (listItems_at
              ho hd (wpAny_pure ?_))
      refine wpAny_bind (firsts_some vs (Q := fun bs s' => wpAny M A (pure (its[0]? :: bs)) Q E s') (fun v hv => t v (List.mem_cons_of_mem _ hv)) fun fs hl _ => wpAny_pure (h _ (by rw [List.length_cons, List.length_cons, hl]) fun w as' e r' => ?_))
      cases e
      cases r' with
      | @tuple _ o2 its2 n2 _ _ ho2 hc2 hd2 hr2 =>
        rw [ho] at ho2
        cases ho2
        rw [hd] at hd2
        cases hd2
        have hz : its.toList.length = 0 := ReadsAll.length _ _ _ hr2
        have : its[0]? = none := by
          rw [← Array.getElem?_toList]
          exact List.getElem?_eq_none (by omega)
        rw [this]
        rfl
theorem kind_firstE {M : Model} {A : Around} {E : Value → Shared → Prop} {s : Shared} {vs : List Value} {Q : SortKind → Shared → Prop} (h2 : 2 ≤ vs.length) (ht : ∀ v ∈ vs, ∃ xs as, Reads s.heap v (.tuple xs) as) (h1 : ∃ v as, vs.head? = some v ∧ Reads s.heap v (.tuple []) as) (h : Q oneType' s) :
    wpAny M A (keyKind'
            vs.toArray) Q E s := by
  obtain ⟨v, as, hv, rv⟩ := h1
  rw [keyKind'_eq, List.mapM_toArray,
          map_eq_pure_bind]
  refine wpAny_bind (wpAny_bind (firsts_some vs ht fun fs hl hf => wpAny_pure ?_))
  have hf := hf v as hv rv
  obtain ⟨f0, fr, rfl⟩ : ∃ f0 fr, fs = f0 :: fr := by
    match fs, hf with
    | f0 :: fr, _ => exact ⟨f0, fr, rfl⟩
  have : f0 = none := by simpa using hf
  subst this
  rw [if_neg (by simp),
          if_neg (by simp)]
  rw [oneTypeOnly'_eq,
          List.mapM_toArray, map_eq_pure_bind]
  refine wpAny_bind (wpAny_bind (wpAny_bind (kas_mapM (r := Value.type "tuple") _ (fun v hv Q' hq => ?_) (wpAny_pure ?_))))
  · obtain ⟨xs, as, r⟩ := ht v hv
    exact (looks_reads r).here hq
  · have hall2 : ((List.map (fun _ => Value.type "tuple") vs).toArray.all fun x => x == Value.type "tuple") = true := by
      simp only [List.all_toArray,
              List.all_map, List.all_eq_true]
      intro _ _
      rfl
    have h0 : (List.map (fun _ => Value.type "tuple") vs).toArray[0]? = some (Value.type "tuple") := by
      cases vs with
      | nil => simp at h2
      | cons _ _ => simp
    rw [h0]
    simp only [hall2, if_true]
    exact wpAny_pure
            (wpAny_pure h)
theorem sortsAt_firstE {prog : Program} {W' : World} {A : Around} {s : Shared} {vs : List Value} {ds : List PyData} (e : EachIs (fun v d => ∃ as, Reads s.heap v d as) vs ds) (hal : AllAlike ds) (hf : ds.head? = some (.tuple [])) (ht : ∀ d ∈ ds, ∃ xs, d = .tuple xs) (hu : ∀ d, d ∈ ds → A.units + d.depth < cLine) :
    SortsAt prog W' A s (dataKind s.heap ds) vs := by
  have room : ∀ {d d' : PyData}, d ∈ ds → A.units + min d.depth d'.depth < cLine := fun {d d'} hd =>
          Nat.lt_of_le_of_lt (Nat.add_le_add_left (Nat.min_le_left _ _) _) (hu d hd)
  refine ⟨fun v hv => ?_, oneType', ?_, fun h2 E Q hq => ?_⟩
  · obtain ⟨d, hd, as,
          r⟩ := e.left v hv
    exact ⟨_,
            dataKind_some hal hd r⟩
  · intro E x y a b Q ha hb hq
    obtain ⟨d, as, hd, ra,
            rfl⟩ := dataKind_inv ha
    obtain ⟨d', as', hd', rb,
            rfl⟩ := dataKind_inv hb
    have hdd := hal d hd d' hd'
    have hroom := room
            (d' := d') hd
    obtain ⟨xs, rfl⟩ := ht d hd
    obtain ⟨ys, rfl⟩ := ht d' hd'
    rw [keyLt'_oneType]
    exact oneLt_tup ra rb hdd hroom hq
  · refine kind_firstE h2 (fun v hv => ?_) ?_ hq
    · obtain ⟨d, hd, as,
            r⟩ := e.left v hv
      obtain ⟨xs, rfl⟩ := ht d hd
      exact ⟨xs, as, r⟩
    · cases e with
      | nil => cases hf
      | cons h t =>
        obtain ⟨as, r⟩ := h
        have := Option.some.inj hf
        subst this
        exact ⟨_, as, rfl, r⟩
section
variable {X : Cx} {w : Wd} {pg : Pg}
/-- the items of a list, as data -/
theorem each_reads {pins : List (Addr × Obj)} {σ : L2.St} {H : Hp} {s : Shared} {z : Z} (hK : X.K = w.K) (I : Inv X pins σ H s) (S : StRel w z H) : ∀ {us : List T} {ws : List V} {its : List Value}, T.dats 20 us = true → Reps w z.as z.hm us ws → Vals ws its →
    EachIs (fun u t => (∃ v, RelV v u ∧ Rep w z.as z.hm t v) ∧ ∃ as, Reads s.heap u (toD t) as) its us
  | [], _, _, _, r, v => by
    have := r.nil_inv
    subst this
    cases v
    exact .nil
  | t :: us, _, _, hd, r, v => by
    obtain ⟨x, ws, rfl, r1, r2⟩ := r.cons_inv
    obtain ⟨d1, d2⟩ := Bool.and_eq_true_iff.mp (show (t.dat 20 && T.dats 20 us) = true by simpa [T.dats] using hd)
    cases v with
    | cons rv vs =>
      have dp : Dp X.K H x (toD t) := by rw [hK]; exact Rep.dp S.sub 20 t x d1 r1
      obtain ⟨as, rd⟩ := Dp.reads I (toD t) x _ dp rv
      exact .cons ⟨⟨x, rv, r1⟩, as, rd⟩ (each_reads hK I S d2 r2 vs)
theorem reps_each {w : Wd} {z : Z} : ∀ {us : List T} {its : List Value}, EachIs (fun u t => ∃ v, RelV v u ∧ Rep w z.as z.hm t v) its us → ∃ ws, Vals ws its ∧ Reps w z.as z.hm us ws
  | [], _, .nil => ⟨[], .nil, Reps.nil⟩
  | _ :: _, _, .cons ⟨v, h1, h2⟩ t => by
    obtain ⟨ws, k1, k2⟩ := reps_each t
    exact ⟨v :: ws, .cons h1 k1, Reps.cons h2 k2⟩
theorem dats_depth : ∀ {n : Nat} {us : List T}, T.dats n us = true → ∀ t ∈ us, t.dat n = true
  | n, [], _, t, h => by cases h
  | n, u :: us, hd, t, h => by
    obtain ⟨d1, d2⟩ := Bool.and_eq_true_iff.mp (show (u.dat n && T.dats n us) = true by simpa [T.dats] using hd)
    rcases List.mem_cons.mp
            h with e | h
    · rw [e]; exact d1
    · exact dats_depth d2 t h
theorem sort_data (hK : X.K = w.K) (hu : X.A.units + 65 < cLine) {pins : List (Addr × Obj)} {s : Shared} {σ : L2.St} {z : Z} {H : Hp} {a : Addr} {us : List T} {ws : List V} {Q : VK} {E : XK} (I : Inv X pins σ H s) (S : StRel w z H) (hq : H a = some (.lst ws)) (r : Reps w z.as z.hm us ws) (ok : sortOk us = true)
    (p : PostG (rT w) w z H (.ok (.lst (sortT us)) z.st) Q E) : wpAny (model X.prog X.w) X.A (call (.builtin "sorted") [.ref a]) (EP X pins σ Q) X.xe s := by
  unfold sortOk at ok
  simp only [Bool.and_eq_true,
          decide_eq_true_eq] at ok
  obtain ⟨⟨⟨hl, hd⟩, hal⟩, hk⟩ := ok
  obtain ⟨its, rv, pl, hz⟩ := I.list (SqL.of hq : SqL X.K H a ws)
  have e0 := each_reads hK I S hd r rv
  have e : EachIs (fun u t => ∃ v, RelV v u ∧ Rep w z.as z.hm t v) its us := e0.mono fun _ _ h => h.1
  have er : EachIs (fun u t => ∃ as, Reads s.heap u (toD t) as) its us := e0.mono fun _ _ h => h.2
  have hall : AllAlike (us.map toD) := fun d hd d' hd' => by
    obtain ⟨t, ht, rfl⟩ := List.mem_map.mp hd
    obtain ⟨t', ht', rfl⟩ := List.mem_map.mp hd'
    exact List.all_eq_true.mp (List.all_eq_true.mp hal t ht) t' ht'
  have hL : us.length ≤ sizeLine := by rw [← big_line]; exact hl
  have hun : ∀ b, b ∈ us → X.A.units + 2 + (toD b).depth < cLine := fun b hb => by
    have := (dat_lay 20 b (dats_depth hd b hb)).2
    omega
  have fin : ∀ out : List Value, out.length = us.length → EachIs (fun u t => ∃ v, RelV v u ∧ Rep w z.as z.hm t v) out (us.mergeSort leT) → EP X pins σ Q (.ref (s.heap.objs.size + 1)) { s with heap := sortedAll s.heap its (List.toArray out) } := by
    intro out ho eo
    obtain ⟨vs', rv', rr'⟩ := reps_each eo
    obtain ⟨ep,
            he'⟩ := PyProof.Rows.sortedAll_at s.heap its out.toArray
    have hlen : vs'.length ≤ sizeLine := by rw [rv'.length, ho]; exact hL
    have hb : H (s.heap.objs.size + 1) = none := I.hok.fresh (Nat.le_succ _)
    refine ⟨.ref _, upd H (s.heap.objs.size + 1) (.lst vs'), I.laid (t' := s.toks) (fun _ _ => PyProof.Rows.sortedAll_old) (Nat.le_succ _) ⟨hlen, out, ep, rv', he'⟩, rfl, ?_⟩
    exact post_lst (E := E) p S rr' _ hb
  rcases Bool.or_eq_true_iff.mp hk with hk | hk
  · have hs : PySem.W.Sortable (us.map toD) := by
      rcases Bool.or_eq_true_iff.mp hk with hk | hk
      · refine .inl fun d hd => ?_
        obtain ⟨t, ht, rfl⟩ := List.mem_map.mp hd
        have := List.all_eq_true.mp hk t ht
        match t, this with
        | .tup (x :: r), _ => exact ⟨toD x, toDs r, by simp [toD, toDs]⟩
      · refine .inr fun d hd => ?_
        obtain ⟨t, ht, rfl⟩ := List.mem_map.mp hd
        have h1 := List.all_eq_true.mp hk t ht
        have h2 := dats_depth ‹_› t ht
        cases t <;> first | (simp [noSortT] at h1; done) | (simp [T.dat] at h2; done) | (simp [toD]; done)
    exact sorted_data (enc := toD) pl.isList e er hall hs hL hun fun out ho eo => fin out ho eo
  · obtain ⟨h1, h2⟩ := Bool.and_eq_true_iff.mp hk
    have er' : EachIs (fun v b => ∃ as, Reads (sortingHeap (copyHeap s.heap its) (s.heap.objs.size + 1) its) v (toD b) as) its us := er.mono fun _ _ ⟨as, r⟩ => ⟨as, PyProof.Rows.Reads.keeps (fun _ _ => sorting_copy_old) r⟩
    refine sorted_vals (κ := dataKind (sortingHeap (copyHeap s.heap its) (s.heap.objs.size + 1) its) (us.map toD)) pl.isList (sortsAt_firstE (s := { s with heap := sortingHeap (copyHeap s.heap its) (s.heap.objs.size + 1) its }) (each_map (R := fun v d => ∃ as, Reads (sortingHeap (copyHeap s.heap its) (s.heap.objs.size + 1) its) v d as) toD er') hall ?_ (fun d hd => ?_) (bound_map hun)) (by rw [e.length]; exact hL) (fin _ (by rw [sortVals_length false rfl]; exact e.length) (sortVals_data false e er' hall))
    · match us, h1 with
      | .tup [] :: us, _ => simp [toD, toDs]
    · obtain ⟨t, ht, rfl⟩ := List.mem_map.mp hd
      have := List.all_eq_true.mp h2 t ht
      match t, this with
      | .tup xs, _ => exact ⟨toDs xs, by simp only [toD]⟩
theorem bl_sorted (hK : X.K = w.K) (hu : X.A.units + 65 < cLine) (hc : X.calm = true) : CallR X (.builtin "sorted") (rBl w pg .sorted) := by
  intro pins s σ H vs us Q I rr ⟨z, ts, E, S, rs, p⟩
  obtain ⟨tr, e, p2⟩ := post_is p
  clear p
  have e : sortedT z.st ts = some tr := e
  unfold sortedT at e
  split at e
  · rename_i us1 hl
    obtain ⟨a, ws, e2, q, k⟩ := lst1_rep S hl rs
    split at e
    · rename_i xs e3
      obtain ⟨c, e⟩ := ite_is e
      cases e
      rw [strsT_map e3] at k
      refine cr_sortedS pins s σ H vs us Q I rr ?_
      rw [e2]
      refine ⟨a, xs.map strN, rfl, by rw [← k.strs]; exact SqL.of q, by rw [List.length_map]; exact c, fun ys b hp hs hb => ?_⟩
      rw [sorted_is hp hs]
      exact post_lst (E := E) p2 S (Reps.of_strs _) b hb
    · obtain ⟨c, e⟩ := ite_is e
      cases e
      rw [e2] at rr
      rw [Vals.ref1 rr]
      exact sort_data hK hu I S q k c p2
  · split at e
    · rename_i xs hx
      obtain ⟨c, e⟩ := ite_is e
      cases e
      obtain ⟨ks, h1, h2⟩ := Option.bind_eq_some_iff.mp hx
      unfold dic1 at h1
      split at h1
      · rename_i a1
        obtain ⟨⟨ks', ts'⟩, h3, h4⟩ := map_some h1
        have h4 : ks' = ks := h4
        subst h4
        obtain ⟨y, rfl, ry⟩ := rs.one
        obtain ⟨a, kvs, rfl, q, m, r1⟩ := dicOf_rep S h3 ry
        refine call_sortedD hc pins s σ H _ us Q I rr ⟨a, kvs, xs.map strN, rfl, .inl q, ?_, by rw [List.length_map]; exact c, fun ys b hp hs hb => ?_⟩
        · rw [m, ksS_map h2, List.map_map, List.map_map]
          try rfl
        · rw [sorted_is hp hs]
          exact post_lst (E := E) p2 S (Reps.of_strs _) b hb
      · cases h1
    · cases e
end
end Mu
end
section
set_option Elab.async false
set_option linter.all false
set_option maxRecDepth 100000
set_option maxHeartbeats 4000010
/-! Mu, part 4b: int(text, 2) of zeros and ones. -/
namespace Mu
open PySem
open PySem.Spec
open PyProof.Rows
open L2
namespace Bin
open PySem.NumText
open PySem.Calls
def Bit (c : Nat) : Prop := c = 48 ∨ c = 49
def num (l : List Nat) : Nat := l.foldl (fun a c => a * 2 + (c - 48)) 0
theorem binN_num : ∀ (l : List Nat) (a n : Nat), binN l a = some n → (∀ c ∈ l, Bit c) ∧ n = l.foldl (fun a c => a * 2 + (c - 48)) a
  | [], a, n, h => by
    simp [binN] at h
    exact ⟨fun _ q => (nomatch q), h.symm⟩
  | c :: l, a, n, h => by
    unfold binN at h
    split at h
    · rename_i e; cases e
    · rename_i cs e
      cases e
      obtain ⟨h1, h2⟩ := binN_num _ _ _ h
      refine ⟨fun d hd => ?_, ?_⟩
      · rcases List.mem_cons.mp hd with e | hd
        · exact .inl e
        · exact h1 d hd
      · rw [List.foldl_cons, h2, Nat.mul_comm]
        rfl
    · rename_i cs e
      cases e
      obtain ⟨h1, h2⟩ := binN_num _ _ _ h
      refine ⟨fun d hd => ?_, ?_⟩
      · rcases List.mem_cons.mp hd with e | hd
        · exact .inr e
        · exact h1 d hd
      · rw [List.foldl_cons, h2, Nat.mul_comm]
    · cases h
theorem bit_step {d : Array Nat} {b : Bool} {c : Nat} (h : Bit c) : PySem.NumText.step 2 (d, b) c = some (d.push (c - 48), true) := by
  rcases h with e | e <;> subst e <;> rfl
theorem bit_fold : ∀ (l : List Nat) (d : Array Nat), (∀ c ∈ l, Bit c) → l.foldlM (PySem.NumText.step 2) (d, true) = some (l.foldl (fun q c => q.push (c - 48)) d, true)
  | [], _, _ => rfl
  | c :: l, d, h => by
    have h1 := bit_step (d := d) (b := true) (h c List.mem_cons_self)
    have h2 := bit_fold l (d.push (c - 48)) fun x hx => h x (List.mem_cons_of_mem _ hx)
    rw [List.foldlM_cons, h1, List.foldl_cons]
    exact h2
theorem bit_digits {l : List Nat} (h : ∀ c ∈ l, Bit c) (ne : l ≠ []) : digits? 2 l = some (l.foldl (fun q c => q.push (c - 48)) #[]) := by
  cases l with
  | nil => exact absurd rfl ne
  | cons c l =>
    have h1 := bit_step (d := #[]) (b := false) (h c List.mem_cons_self)
    have h2 := bit_fold l ((#[] : Array Nat).push (c - 48)) fun x hx => h x (List.mem_cons_of_mem _ hx)
    unfold digits?
    rw [List.foldlM_cons, h1, List.foldl_cons]
    exact congrArg (fun o => Option.bind o _) h2
theorem bit_push : ∀ (l : List Nat) (d : Array Nat), (l.foldl (fun q c => q.push (c - 48)) d).foldl (fun a x => a * 2 + x) 0 = l.foldl (fun a c => a * 2 + (c - 48)) (d.foldl (fun a x => a * 2 + x) 0)
  | [], _ => rfl
  | c :: l, d => by
    rw [List.foldl_cons, List.foldl_cons, bit_push l (d.push (c - 48))]
    congr 1
    simp
theorem no_blank {l : List Nat} (h : ∀ c ∈ l, Bit c) : l.dropWhile blank = l := by
  cases l with
  | nil => rfl
  | cons c l => exact dropWhile_of (by rcases h c List.mem_cons_self with e | e <;> omega)
theorem no_sign {l : List Nat} (h : ∀ c ∈ l, Bit c) : sign l = (false, l) := by
  cases l with
  | nil => rfl
  | cons c l =>
    have q := h c List.mem_cons_self
    exact sign_of (by rcases q with e | e <;> omega) (by rcases q with e | e <;> omega)
theorem no_prefix {l : List Nat} (h : ∀ c ∈ l, Bit c) : NumText.prefix? l = none := by
  match l, h with
  | [], _ => rfl
  | [a], h => rcases h a List.mem_cons_self with e | e <;> subst e <;> rfl
  | a :: b :: r, h =>
    rcases h a List.mem_cons_self with e | e <;> rcases h b (List.mem_cons_of_mem _ List.mem_cons_self) with e2 | e2 <;> subst e <;> subst e2 <;> rfl
theorem the_base {l : List Nat} (h : ∀ c ∈ l, Bit c) : based 2 l = (2, false, l) := by
  unfold based
  rw [no_prefix h]
  rfl
theorem bit_read {l : List Nat} (h : ∀ c ∈ l, Bit c) (ne : l ≠ []) : (int_private% "readNumeral") 0 2 l = (int_private% "Numeral.value") ((num l : Nat) : Int) := by
  have hr : ∀ c ∈ l.reverse, Bit c := fun c hc => h c (List.mem_reverse.mp hc)
  refine (readNumeral_eq 0 2 l).trans ?_
  rw [no_blank h, no_sign h]
  show judge 0 false (based 2 l).1 (based 2 l).2.1 (digits? (based 2 l).1 (((based 2 l).2.2.reverse.dropWhile blank).reverse)) = _
  rw [the_base h]
  show judge 0 false 2 false (digits? 2 ((l.reverse.dropWhile blank).reverse)) = _
  rw [no_blank hr, List.reverse_reverse, bit_digits h ne]
  show (int_private% "Numeral.value") (((l.foldl (fun q c => q.push (c - 48)) (#[] : Array Nat)).foldl (fun a x => a * 2 + x) 0 : Nat) : Int) = _
  have e0 : (#[] : Array Nat).foldl (fun a x => a * 2 + x) 0 = 0 := by first | rfl | simp
  rw [bit_push, e0] <;> rfl
theorem bit_seen {x : Str} (h : ∀ c ∈ x.cps.toList, Bit c) : numTextOf x = x.cps.toList ∧ numSeenOf x = x.cps.toList := by
  have e1 : numTextOf x
          = x.cps.toList := by
    refine if_pos ?_
    rw [← Array.all_toList,
            List.all_eq_true]
    exact fun c hc => decide_eq_true (by rcases h c hc with e | e <;> omega)
  have e2 : numSeenOf x = (numTextOf x).takeWhile (· != 0) := rfl
  refine ⟨e1, ?_⟩
  rw [e2, e1]
  exact takeWhile_all fun c hc => bne_iff_ne.mpr (by rcases h c hc with e | e <;> omega)
set_option maxHeartbeats 4000010 in
theorem gives_bin {x : PySem.Str} {u t : Tok} (hl : x.length ≤ 640) (h : ∀ c ∈ x.cps.toList, Bit c) (ne : x.cps.toList ≠ []) :
    Gives (Builtin.«int.__new__» ⟨[.type "int", .str x u, .int 2 t], []⟩) (.int ((num x.cps.toList : Nat) : Int)) :=
  .of_wp fun M A E s Q hQ => by
    obtain ⟨hp, g,
            d, tk, os⟩ := s
    have p1 := F.conv_sub_int
    have p2 := F.madeHere_int
    have p3 : typeOf (.str x u) = pure (.type "str") := rfl
    obtain ⟨e1, e2⟩ := bit_seen h
    have a1 : (numSeenOf x).length ≤ 640 := by
      rw [e2, Array.length_toList]; exact hl
    have a2 : (int_private% "readNumeral") 0 2 (numSeenOf x) = (int_private% "Numeral.value") ((num x.cps.toList : Nat) : Int) := by
      rw [e2]; exact bit_read h ne
    have a3 : ((numSeenOf x).length == (numTextOf x).length) = true := by
      rw [e1, e2]; exact beq_self_eq_true _
    have hk := L2.Hx.Hid.mk (And.intro a1 (And.intro a2 a3))
    clear a1 a2 a3 e1 e2 hl ne h
    repeat (any_goals (first
      | assumption
      | ((with_reducible show wpAny _ _ ((int_private% "intFromText") _ _ _) _ _ _); refine L2.Hx.wp_textB hk.out.1 hk.out.2.1 hk.out.2.2 ?_)
      | wp_step))
    all_goals first | exact ⟨_,
            rfl, hQ⟩ | skip
theorem call_bin {prog : Program} {w : World} {A : Around} {E : Value → Shared → Prop} {s : Shared} {Q : Value → Shared → Prop} {x : PySem.Str} {u t : Tok} (hl : x.length ≤ 640) (h : ∀ c ∈ x.cps.toList, Bit c) (ne : x.cps.toList ≠ [])
    (hQ : Q (.int ((num x.cps.toList : Nat) : Int) s.toks) { s with toks := s.toks + 1 }) : wpAny (model prog w) A (call (.type "int") [.str x u, .int 2 t]) Q E s :=
  callType_new F.called_int F.newNe_int (L2.Hx.typeCall_int_2 _ _) (L2.Hx.newCall_int_2 _ _) (fun obj => F.initArgs_range_2 obj _ _) F.entry_int_new (gives_bin hl h ne).meets
    (show (Made.int ((num x.cps.toList : Nat) : Int)).post _ s from ⟨rfl, hQ⟩)
end Bin
theorem call_int_bin {X : Cx} : CallR X (.type "int") (fun xs H Q => ∃ (l : List Nat) (n : Nat), xs = [.str ⟨l.toArray⟩, .int 2] ∧ l ≠ [] ∧ l.length ≤ 640 ∧ binN l 0 = some n ∧ Q (.int n) H) := by
  intro pins s σ H xs us Q I r ⟨l, n, e, ne, hl, hb, q⟩
  subst e
  obtain ⟨u, v, rfl, ⟨t1, rfl⟩, ⟨t2, rfl⟩⟩ := vals2 r
  obtain ⟨h1, h2⟩ := Bin.binN_num l 0 n hb
  have hn : ((Bin.num (⟨l.toArray⟩ : Str).cps.toList : Nat) : Int) = (n : Int) := by
    rw [h2]
    simp [Bin.num]
  refine Bin.call_bin (x := ⟨l.toArray⟩) (by rw [str_len]; exact hl) (by simpa using h1) (by simpa using ne) ?_
  rw [hn]
  exact ⟨.int n, H, I.tok _, ⟨_, rfl⟩, q⟩
theorem bl_int2 {X : Cx} {w : Wd} {pg : Pg} : CallR X (.type "int") (rBl w pg .int2) := by
  refine bl_of call_int_bin fun z H ts vs Q E tr S rs e p => ?_
  have e : int2T ts = some tr := e
  unfold int2T at e
  split at e
  · obtain ⟨v, x, e1, r1, r2⟩ := rs.two
    obtain ⟨c, e⟩ := ite_is e
    obtain ⟨n, e2, e3⟩ := map_some e
    subst e3
    rw [e1, r1.str_inv, r2.int_inv, c.1]
    exact ⟨_, n, rfl, (fun q => by rw [q] at c; simp at c), by omega, e2, PostG.here p S (Rep.of_int _)⟩
  · cases e
end Mu
end
section
set_option Elab.async false
set_option linter.all false
set_option maxRecDepth 100000
set_option maxHeartbeats 4000010
/-! Mu, part 5: the checker of expressions, and what the module's facts are. -/
namespace Mu
open PySem
open PySem.Spec
open PyProof.Rows
open L2

/-- the names: defs by number, globals' objects by number, attributes and methods by number, constants, built-in names that are not shadowed -/
structure Tab where
  fn : List Str
  gl : List Str
  nm : List Str
  gc : List (Str × T)
  free : List Str
  cl : List Nat
  kb : List (Nat × List Str × List Nat)
  kc : List (Nat × List Str × List Nat) := []
  km : List (Nat × List Str × List Nat) := []
  hot : Bool := false
/-- built-ins that may be called where an exception is handled -/
def hotNames : List Str := ["len", "repr", "isinstance", "abs", "int", "str", "bool"]
def Tab.name (tb : Tab) (n : Nat) : Str := tb.nm.getD n Str.empty
def visB (sc : Scope) (x : Str) : Bool := match sc.names.lookup x with
  | some .local => true
  | some .cell => true
  | some .free => true
  | _ => false
def glB (sc : Scope) (x : Str) : Bool := match sc.names.lookup x with
  | some .globalImplicit => true
  | _ => false
def okName (x : Str) : Bool := !(x == ("__debug__" : Str)) && !(x == ("__classdict__" : Str)) && !(x == ("__name__" : Str))
def bName : B → Str
  | .len => "len" | .sum => "sum" | .all => "all" | .any => "any" | .maxL => "max" | .minL => "min" | .max2 => "max" | .min2 => "min" | .tuple => "tuple" | .list => "list"
  | .sorted => "sorted" | .int => "int" | .int2 => "int" | .str => "str" | .abs => "abs" | .divmod => "divmod" | .repr => "repr" | .isi => "isinstance"
def mName : M → Str
  | .append => "append" | .extend => "extend" | .pop => "pop" | .popAt => "pop" | .index => "index" | .count => "count" | .lindex => "index" | .lcount => "count" | .join => "join" | .split => "split" | .partition => "partition" | .startswith => "startswith" | .get2 => "get"
def bVal : B → Value
  | .len => .builtin "len" | .sum => .builtin "sum" | .all => .builtin "all" | .any => .builtin "any" | .maxL => .builtin "max" | .minL => .builtin "min" | .max2 => .builtin "max" | .min2 => .builtin "min"
  | .tuple => .type "tuple" | .list => .type "list" | .sorted => .builtin "sorted" | .int => .type "int" | .int2 => .type "int" | .str => .type "str" | .abs => .builtin "abs" | .divmod => .builtin "divmod"
  | .repr => .builtin "repr" | .isi => .builtin "isinstance"
def constB : T → PySem.Const → Bool
  | .non, .none => true
  | .bl a, .bool b => a == b
  | .int a, .int b => decide (a = b)
  | .str a, .str b => decide (a = b.cps.toList)
  | _, _ => false
/-- an expression whose attribute's base is itself -/
def plainO : Expr → Bool
  | .Call (.Name x _) [] [] _ => x != "super"
  | _ => true
def plainT : Expr → Bool
  | .UnaryOp .Not _ _ => false
  | .BoolOp _ _ _ => false
  | .IfExp _ _ _ _ => false
  | .Compare _ _ _ _ => false
  | _ => true
def noSlice : Expr → Bool
  | .Slice _ _ _ _ => false
  | _ => true
def noSet : Expr → Bool
  | .Set _ _ _ => false
  | _ => true
def noStar : Expr → Bool
  | .Starred _ _ => false
  | _ => true
def tyNames : List (Str × String) := [("int", "int"), ("str", "str"), ("tuple", "tuple"), ("bool", "bool"), ("list", "list"), ("dict", "dict"), ("ValueError", "ValueError"), ("LookupError", "LookupError"), ("ArithmeticError", "ArithmeticError")]
/-- names in an own scope, as targets -/
def locB (own : Scope) (x : Str) : Bool := match own.names.lookup x with
  | some .local => true
  | some .cell => true
  | _ => false
def kwNames (ks : List Keyword) : List Str := ks.filterMap (·.arg)
def tupE : Expr → Bool
  | .Tuple _ _ _ => true
  | _ => false
/-- lambda x: x[i] -/
def klB (i : Int) (params : Arguments) (body : Expr) (scope : Scope) : Bool := match params, body with
  | ⟨[], [⟨x, none, _⟩], none, [], [], none, []⟩, .Subscript (.Name y _) (.Constant (.int j) _ _) _ => decide (x = y) && decide (j = i) && decide (-(2 ^ 63) ≤ i) && decide (i < 2 ^ 63) && !(x == ("__debug__" : Str)) &&
    decide (scope.kind = .function) && !scope.isCoroutine && !scope.isGenerator && decide (scope.names = [(x, .local)])
  | _, _ => false
def o1Name : O1 → Str
  | .len => "len" | .str => "str"
def o1Meth : O1 → Str
  | .len => Str.ofString "__len__" | .str => Str.ofString "__str__"
section
variable (tb : Tab)
mutual
def chkG (N : List Str) (own : Scope) : G → Expr → Bool
  | .nm i, .Name x _ => decide (N[i]? = some x) && locB own x
  | .two a b, .Tuple [a', b'] _ _ => chkG N own a a' && chkG N own b b'
  | .three a b c, .Tuple [a', b', c'] _ _ => chkG N own a a' && chkG N own b b' && chkG N own c c'
  | .four a b c d, .Tuple [a', b', c', d'] _ _ => chkG N own a a' && chkG N own b b' && chkG N own c c' && chkG N own d d'
  | _, _ => false
end
mutual
def chk (N : List Str) (sc : Scope) : X → Expr → Bool
  | .v i, e => match e with
    | .Name x _ => decide (N[i]? = some x) && visB sc x && okName x
    | _ => false
  | .c t, e => match e with
    | .Constant k _ _ => constB t k
    | _ => false
  | .gl n, e => match e with
    | .Name x _ => decide (tb.gl[n]? = some x) && glB sc x && okName x
    | _ => false
  | .gc y t, e => match e with
    | .Name x _ => decide (y = x) && glB sc x && okName x && tb.gc.any fun p => decide (p.1 = x) && T.beq p.2 t
    | _ => false
  | .bty y n, e => match e with
    | .Name x _ => decide (y = x) && glB sc x && okName x && decide (x ∈ tb.free) && decide ((y, n) ∈ tyNames)
    | _ => false
  | .bin op a b, e => match e with
    | .BinOp a' op' b' _ => decide (op = op') && chk N sc a a' && chk N sc b b'
    | _ => false
  | .cmp op a b, e => match e with
    | .Compare a' [op'] [b'] _ => decide (op = op') && noSet b' && chk N sc a a' && chk N sc b b'
    | _ => false
  | .chn o p a b c, e => match e with
    | .Compare a' [o', p'] [b', c'] _ => decide (o = o') && decide (p = p') && noSet b' && noSet c' && chk N sc a a' && chk N sc b b' && chk N sc c c'
    | _ => false
  | .and2 a b, e => match e with
    | .BoolOp .And (a' :: b' :: r) pos => chk N sc a a' && chk N sc b (.BoolOp .And (b' :: r) pos)
    | _ => false
  | .or2 a b, e => match e with
    | .BoolOp .Or (a' :: b' :: r) pos => chk N sc a a' && chk N sc b (.BoolOp .Or (b' :: r) pos)
    | _ => false
  | .one a, e => match e with
    | .BoolOp _ [a'] _ => chk N sc a a'
    | _ => false
  | .not1 a, e => match e with
    | .UnaryOp .Not a' _ => chk N sc a a'
    | _ => false
  | .neg a, e => match e with
    | .UnaryOp .USub a' _ => chk N sc a a'
    | _ => false
  | .ite c a b, e => match e with
    | .IfExp c' a' b' _ => chkT N sc c c' && chk N sc a a' && chk N sc b b'
    | _ => false
  | .tup es, e => match e with
    | .Tuple es' _ _ => chks N sc es es'
    | _ => false
  | .lst _ es, e => match e with
    | .List es' _ => chks N sc es es'
    | _ => false
  | .dnew _, e => match e with
    | .Dict [] [] _ => true
    | _ => false
  | .cl f es, e => match e with
    | .Call (.Name x _) es' [] _ => decide (tb.fn[f]? = some x) && glB sc x && okName x && chks N sc es es'
    | _ => false
  | .bl b es, e => match e with
    | .Call (.Name x _) es' [] _ => decide (bName b = x) && glB sc x && okName x && decide (x ∈ tb.free) && !es'.isEmpty && chks N sc es es'
    | _ => false
  | .om m o es, e => match e with
    | .Call (.Attribute o' x apos) es' [] pos => decide (tb.name m = x) && plainO o' && decide (apos.endLine = pos.line) && decide (es'.length < 20) && chk N sc o o' && chks N sc es es'
    | _ => false
  | .mt m o es, e => match e with
    | .Call (.Attribute o' x apos) es' [] pos => decide (mName m = x) && plainO o' && decide (apos.endLine = pos.line) && decide (es'.length < 20) && chk N sc o o' && chks N sc es es'
    | _ => false
  | .mk c es, e => match e with
    | .Call (.Name x _) es' [] _ => decide (tb.gl[c]? = some x) && glB sc x && okName x && decide (c ∈ tb.cl) && chks N sc es es'
    | _ => false
  | .ix a b, e => match e with
    | .Subscript a' b' _ => noSlice b' && chk N sc a a' && chk N sc b b'
    | _ => false
  | .sl a lo hi, e => match e with
    | .Subscript a' (.Slice lo' hi' none _) _ => chk N sc a a' && chkO N sc lo lo' && chkO N sc hi hi'
    | _ => false
  | .fld a f, e => match e with
    | .Attribute a' x _ => decide (tb.name f = x) && plainO a' && chk N sc a a'
    | _ => false
  | .comp _ e g it own cs, e0 => match e0 with
    | .ListComp e' [⟨g', it', cs', 0⟩] scope _ =>
      noSet it' && blkC N sc scope (own.filterMap fun i => (N[i]?).map fun x => (x, i)) && decide ((own.filterMap fun i => (N[i]?).map fun x => (x, i)).map (·.2) = own) && chkG N scope g g' && (gS g).all (fun j => decide (j ∈ own)) && chkI N sc it g' it' && chkA N (relS scope sc) cs cs' && chk N (relS scope sc) e e' && !tb.hot
    | _ => false
  | .disp _ _ _, _ => false
  | .clk f pm es, e => match e with
    | .Call (.Name x _) [] kws _ => decide (tb.fn[f]? = some x) && glB sc x && okName x && decide ((f, kwNames kws, pm) ∈ tb.kb) && chkK N sc es kws
    | _ => false
  | .comp2 e g1 i1 g2 i2 own cs, e0 => match e0 with
    | .ListComp e' [⟨g1', i1', [], 0⟩, ⟨g2', i2', cs', 0⟩] scope _ =>
      noSet i1' && noSet i2' && blkC N sc scope (own.filterMap fun i => (N[i]?).map fun x => (x, i)) && decide ((own.filterMap fun i => (N[i]?).map fun x => (x, i)).map (·.2) = own) && chkG N scope g1 g1' && (gS g1).all (fun j => decide (j ∈ own)) && chkG N scope g2 g2' && (gS g2).all (fun j => decide (j ∈ own)) &&
        chkI N sc i1 g1' i1' && chkI N (relS scope sc) i2 g2' i2' && chkA N (relS scope sc) cs cs' && chk N (relS scope sc) e e' && !tb.hot
    | _ => false
  | .dmk _ a, e => match e with
    | .Call (.Name x _) [a'] [] _ => decide (x = "dict") && glB sc x && okName x && decide (x ∈ tb.free) && noStar a' && chk N sc a a'
    | _ => false
  | .isE a b, e => match e with
    | .Call (.Name x _) [a', b'] [] _ => decide (x = "isinstance") && glB sc x && okName x && decide (x ∈ tb.free) && noStar a' && noStar b' && chk N sc a a' && chk N sc b b'
    | _ => false
  | .fldE a f, e => match e with
    | .Attribute a' x _ => decide (tb.name f = x) && plainO a' && chk N sc a a'
    | _ => false
  | .sp1 o m a, e => match e with
    | .Call (.Name x _) [a'] [] _ => decide (x = o1Name o) && decide (tb.name m = o1Meth o) && glB sc x && okName x && decide (x ∈ tb.free) && noStar a' && chk N sc a a' && !tb.hot
    | _ => false
  | .eqO n m a b, e => match e with
    | .Compare a' [op'] [b'] _ => decide (op' = if n then .NotEq else .Eq) && decide (tb.name m = Str.ofString "__eq__") && noSet b' && chk N sc a a' && chk N sc b b' && !tb.hot
    | _ => false
  | .eqL n m a b, e => match e with
    | .Compare a' [op'] [b'] _ => decide (op' = if n then .NotEq else .Eq) && decide (tb.name m = Str.ofString "__eq__") && noSet b' && chk N sc a a' && chk N sc b b' && !tb.hot
    | _ => false
  | .trO _ _, _ => false
  | .mkk c pm es, e => match e with
    | .Call (.Name x _) [] kws _ => decide (tb.gl[c]? = some x) && glB sc x && okName x && decide (c ∈ tb.cl) && decide ((c, kwNames kws, pm) ∈ tb.kc) && chkK N sc es kws
    | _ => false
  | .omk m f pm o es, e => match e with
    | .Call (.Attribute o' x apos) [] kws pos => decide (tb.name m = x) && plainO o' && decide (apos.endLine = pos.line) && decide (kws.length < 20) && decide ((f, kwNames kws, pm) ∈ tb.km) && chk N sc o o' && chkK N sc es kws
    | _ => false
  | .fs es, e => match e with
    | .JoinedStr (v1 :: v2 :: r) _ => chkJ N sc es (v1 :: v2 :: r)
    | _ => false
  | .fm a, e => match e with
    | .FormattedValue e' k none _ => decide (k = -1) && chk N sc a e'
    | _ => false
  | .minK q a i, e => match e with
    | .Call (.Name x _) [a'] [⟨some y, .Lambda params body scope _, _⟩] _ => decide (x = "min") && decide (y = Str.ofString "key") && glB sc x && okName x && decide (x ∈ tb.free) && noStar a' && decide (tb.name q ∈ N) && klB i params body scope && chk N sc a a'
    | _ => false
  | .dcomp _ ek e g it own cs, e0 => match e0 with
    | .DictComp k' e' [⟨g', it', cs', 0⟩] scope _ =>
      noSet it' && blkC N sc scope (own.filterMap fun i => (N[i]?).map fun x => (x, i)) && decide ((own.filterMap fun i => (N[i]?).map fun x => (x, i)).map (·.2) = own) && chkG N scope g g' && (gS g).all (fun j => decide (j ∈ own)) && chkI N sc it g' it' && chkA N (relS scope sc) cs cs' && chk N (relS scope sc) ek k' && chk N (relS scope sc) e e' && !tb.hot
    | _ => false
  | .rng1 _, _ => false
  | .rng2 _ _, _ => false
  | .enum _, _ => false
  | .zip _ _, _ => false
  | .tr _, _ => false
  | .it _, _ => false
def chkJ (N : List Str) (sc : Scope) : Xs → List Expr → Bool
  | .nil, [] => true
  | .cons a r, e :: es => chk N sc a e && chkJ N sc r es
  | _, _ => false
def chks (N : List Str) (sc : Scope) : Xs → List Expr → Bool
  | .nil, [] => true
  | .cons a r, e :: es => noStar e && chk N sc a e && chks N sc r es
  | _, _ => false
def chkK (N : List Str) (sc : Scope) : Xs → List Keyword → Bool
  | .nil, [] => true
  | .cons a r, k :: ks => k.arg.isSome && chk N sc a k.value && chkK N sc r ks
  | _, _ => false
def chkO (N : List Str) (sc : Scope) : Xs → Option Expr → Bool
  | .nil, none => true
  | .cons a .nil, some e => chk N sc a e
  | _, _ => false
def chkA (N : List Str) (sc : Scope) : Xs → List Expr → Bool
  | .nil, [] => true
  | .cons a .nil, [e] => chkT N sc a e
  | _, _ => false
def chkT (N : List Str) (sc : Scope) : X → Expr → Bool
  | .and2 a b, e => match e with
    | .BoolOp .And (a' :: b' :: r) pos => chkT N sc a a' && chkT N sc b (.BoolOp .And (b' :: r) pos)
    | _ => false
  | .or2 a b, e => match e with
    | .BoolOp .Or (a' :: b' :: r) pos => chkT N sc a a' && chkT N sc b (.BoolOp .Or (b' :: r) pos)
    | _ => false
  | .one a, e => match e with
    | .BoolOp _ [a'] _ => chkT N sc a a'
    | _ => false
  | .not1 a, e => match e with
    | .UnaryOp .Not a' _ => chkT N sc a a'
    | _ => false
  | .cmp op a b, e => match e with
    | .Compare a' [op'] [b'] _ => decide (op = op') && noSet b' && chk N sc a a' && chk N sc b b'
    | _ => false
  | .chn o p a b c, e => match e with
    | .Compare a' [o', p'] [b', c'] _ => decide (o = o') && decide (p = p') && noSet b' && noSet c' && chk N sc a a' && chk N sc b b' && chk N sc c c'
    | _ => false
  | .tr c, e => plainT e && chk N sc c e
  | .trO m c, e => plainT e && decide (tb.name m = Str.ofString "__len__") && chk N sc c e && !tb.hot
  | .eqO n m a b, e => match e with
    | .Compare a' [op'] [b'] _ => decide (op' = if n then .NotEq else .Eq) && decide (tb.name m = Str.ofString "__eq__") && noSet b' && chk N sc a a' && chk N sc b b' && !tb.hot
    | _ => false
  | .eqL n m a b, e => match e with
    | .Compare a' [op'] [b'] _ => decide (op' = if n then .NotEq else .Eq) && decide (tb.name m = Str.ofString "__eq__") && noSet b' && chk N sc a a' && chk N sc b b' && !tb.hot
    | _ => false
  | .sp1 _ _ _, _ => false
  | .mkk _ _ _, _ => false
  | .omk _ _ _ _ _, _ => false
  | .fs _, _ => false
  | .fm _, _ => false
  | .v _, _ => false
  | .c _, _ => false
  | .gl _, _ => false
  | .gc _ _, _ => false
  | .bty _ _, _ => false
  | .bin _ _ _, _ => false
  | .neg _, _ => false
  | .ite _ _ _, _ => false
  | .tup _, _ => false
  | .lst _ _, _ => false
  | .dnew _, _ => false
  | .disp _ _ _, _ => false
  | .cl _ _, _ => false
  | .clk _ _ _, _ => false
  | .bl _ _, _ => false
  | .mt _ _ _, _ => false
  | .om _ _ _, _ => false
  | .mk _ _, _ => false
  | .ix _ _, _ => false
  | .sl _ _ _, _ => false
  | .fld _ _, _ => false
  | .comp _ _ _ _ _ _, _ => false
  | .comp2 _ _ _ _ _ _ _, _ => false
  | .dmk _ _, _ => false
  | .minK _ _ _, _ => false
  | .isE _ _, _ => false
  | .fldE _ _, _ => false
  | .dcomp _ _ _ _ _ _ _, _ => false
  | .rng1 _, _ => false
  | .rng2 _ _, _ => false
  | .enum _, _ => false
  | .zip _ _, _ => false
  | .it _, _ => false
def chkI (N : List Str) (sc : Scope) : X → Expr → Expr → Bool
  | .rng1 a, _, e => match e with
    | .Call (.Name x _) [a'] [] _ => decide (x = "range") && glB sc x && decide (x ∈ tb.free) && noStar a' && chk N sc a a'
    | _ => false
  | .rng2 a b, _, e => match e with
    | .Call (.Name x _) [a', b'] [] _ => decide (x = "range") && glB sc x && decide (x ∈ tb.free) && noStar a' && noStar b' && chk N sc a a' && chk N sc b b'
    | _ => false
  | .enum a, tg, e => tupE tg && match e with
    | .Call (.Name x _) [a'] [] _ => decide (x = "enumerate") && glB sc x && decide (x ∈ tb.free) && noStar a' && chk N sc a a'
    | _ => false
  | .zip a b, tg, e => tupE tg && match e with
    | .Call (.Name x _) [a', b'] [] _ => decide (x = "zip") && glB sc x && decide (x ∈ tb.free) && noStar a' && noStar b' && chk N sc a a' && chk N sc b b'
    | _ => false
  | .it a, _, a' => chk N sc a a'
  | .v _, _, _ => false
  | .c _, _, _ => false
  | .gl _, _, _ => false
  | .gc _ _, _, _ => false
  | .bty _ _, _, _ => false
  | .bin _ _ _, _, _ => false
  | .cmp _ _ _, _, _ => false
  | .chn _ _ _ _ _, _, _ => false
  | .and2 _ _, _, _ => false
  | .or2 _ _, _, _ => false
  | .one _, _, _ => false
  | .not1 _, _, _ => false
  | .neg _, _, _ => false
  | .ite _ _ _, _, _ => false
  | .tup _, _, _ => false
  | .lst _ _, _, _ => false
  | .dnew _, _, _ => false
  | .disp _ _ _, _, _ => false
  | .cl _ _, _, _ => false
  | .clk _ _ _, _, _ => false
  | .bl _ _, _, _ => false
  | .mt _ _ _, _, _ => false
  | .om _ _ _, _, _ => false
  | .mk _ _, _, _ => false
  | .ix _ _, _, _ => false
  | .sl _ _ _, _, _ => false
  | .fld _ _, _, _ => false
  | .comp _ _ _ _ _ _, _, _ => false
  | .comp2 _ _ _ _ _ _ _, _, _ => false
  | .dmk _ _, _, _ => false
  | .minK _ _ _, _, _ => false
  | .isE _ _, _, _ => false
  | .fldE _ _, _, _ => false
  | .dcomp _ _ _ _ _ _ _, _, _ => false
  | .tr _, _, _ => false
  | .sp1 _ _ _, _, _ => false
  | .eqO _ _ _ _, _, _ => false
  | .eqL _ _ _ _, _, _ => false
  | .trO _ _, _, _ => false
  | .mkk _ _ _, _, _ => false
  | .omk _ _ _ _ _, _, _ => false
  | .fs _, _, _ => false
  | .fm _, _, _ => false
end
example (N : List Str) (sc : Scope) (a : X) (e e' : Expr) : chkI tb N sc (.it a) e e' = chk tb N sc a e' := rfl
end
end Mu
end
section
set_option Elab.async false
set_option linter.all false
set_option maxRecDepth 100000
set_option maxHeartbeats 4000010
/-! Mu, part 6: readings of the compact syntax; what is asked of the module; the small lemmas of the soundness. -/
namespace Mu
open PySem
open PySem.Spec
open PyProof.Rows
open L2

def EnvR (w : Wd) (z : Z) (env : Env) (σ : L2.St) : Prop := env.length = σ.length ∧ ∀ (i : Nat) (t : T), env[i]? = some (some t) → ∃ v, σ[i]? = some (some v) ∧ Rep w z.as z.hm t v
theorem EnvR.go {w : Wd} {z z' : Z} {H H' : Hp} {env : Env} {σ : L2.St} (e : EnvR w z env σ) (g : Go z H z' H') : EnvR w z' env σ :=
  ⟨e.1, fun i t h => let ⟨v, h1, h2⟩ := e.2 i t h; ⟨v, h1, g.rep h2⟩⟩
abbrev Fn := Nat → List T → Sto → R T
section
variable (w : Wd) (pg : Pg) (F : Fn)
/-- a def's promise: what the evaluator says -/
def spF (f : Nat) : Sp := fun vs H Q E => ∃ z ts, StRel w z H ∧ Reps w z.as z.hm ts vs ∧ PostG (rT w) w z H (F f ts z.st) Q E
def tX (c : X) (W : WX) : TE := fun σ H Q => ∃ z env, StRel w z H ∧ EnvR w z env σ ∧ PostG (rT w) w z H (ev pg F c env z.st) Q (fun cls d H' => W cls d σ H')
def tXs (c : Xs) (W : WX) : TA := fun σ H Q => ∃ z env, StRel w z H ∧ EnvR w z env σ ∧ PostG (rTs w) w z H (evs pg F c env z.st) Q (fun cls d H' => W cls d σ H')
def tXT (c : X) (W : WX) : TT := fun σ H Q => ∃ z env, StRel w z H ∧ EnvR w z env σ ∧ PostG rB w z H (evT pg F c env z.st) Q (fun cls d H' => W cls d σ H')
end
/-- what is walked: items that stand while the pure part stands -/
def WalkOf (w : Wd) (z : Z) (ts : List T) (J : It) : Prop :=
  ∃ G Y, Walk J ts.length G Y ∧ (∀ H : Hp, (∀ a o, z.hm a = some o → H a = some o) → G H) ∧
    ∀ i H x H' z2, (∀ a o, z.hm a = some o → z2.hm a = some o) → (∀ (n : Nat) (a : Addr), z.as[n]? = some a → z2.as[n]? = some a) → StRel w z2 H → Y i H x H' →
      ∃ z3 t, z3.st = z2.st ∧ Go z2 H z3 H' ∧ StRel w z3 H' ∧ ts[i]? = some t ∧ Rep w z3.as z3.hm t x
abbrev rI (w : Wd) : Z → List T → It → Prop := fun z ts J => WalkOf w z ts J
def iX (w : Wd) (pg : Pg) (F : Fn) (c : X) (W : WX) : TI := fun σ H R => ∃ z env, StRel w z H ∧ EnvR w z env σ ∧ PostG (rI w) w z H (evI pg F c env z.st) R (fun cls d H' => W cls d σ H')

/-- a class of ours -/
structure ClOk (w : Wd) (pg : Pg) (F : Fn) (P : Program) (W' : World) (mg : Str → Option Value) (base : Heap) (tb : Tab) (k : Nat) (c : Nat) (cl : Cl) : Prop where
  cls : Cls w.K (w.ad c)
  no : ∀ f ∈ cl.fs, NoAttr w.K (w.ad c) (w.nm f)
  inj : ∀ f ∈ cl.fs, ∀ g, g ∈ cl.fs ∨ g ∈ cl.ms.map (·.1) → w.nm f = w.nm g → f = g
  init : ∃ G fd ps, Mk w.K (w.ad c) G ∧ FnG P W' w.K mg base k G fd ps (spF w F cl.init) ∧ Binds w.K fd ps []
  ms : ∀ m f, (m, f) ∈ cl.ms → ∃ a fd ps, Meth w.K (w.ad c) (w.nm m) a ∧ FnG P W' w.K mg base k a fd ps (spF w F f) ∧ Binds w.K fd ps []
/-- all arguments by name: ks in the row's order, pm the parameters' places among them -/
def KB (K : PySem.W.Frag) (fd : FuncData) (ps ks : List Str) (pm : List Nat) : Prop := ∀ (s : Shared) (ws : List Value), K.In s.heap → ws.length = ks.length → BindsTo s fd ⟨[], ks.zip ws⟩ (ps.zip (pm.map fun i => ws.getD i .none))
/-- one argument ahead (an own instance), the others by name -/
def KBm (K : PySem.W.Frag) (fd : FuncData) (ps ks : List Str) (pm : List Nat) : Prop := ∀ (s : Shared) (u : Value) (ws : List Value), K.In s.heap → ws.length = ks.length → BindsTo s fd ⟨[u], ks.zip ws⟩ (ps.zip (u :: pm.map fun i => ws.getD i .none))
/-- what is asked of the module -/
structure TabOk (w : Wd) (pg : Pg) (tb : Tab) (F : Fn) (P : Program) (W' : World) (mg : Str → Option Value) (base : Heap) (k : Nat) : Prop where
  kit : KitOk w pg
  nm : ∀ n, w.nm n = tb.name n
  free : ∀ x ∈ tb.free, mg x = none
  fn : ∀ (f : Nat) x, tb.fn[f]? = some x → ∃ a fd ps, mg x = some (.ref a) ∧ PySem.W.keepIn w.K (.ref a) = true ∧ FnG P W' w.K mg base k a fd ps (spF w F f) ∧ Binds w.K fd ps []
  gl : ∀ (c : Nat) x, tb.gl[c]? = some x → mg x = some (.ref (w.ad c))
  gc : ∀ x t, (x, t) ∈ tb.gc → ∃ u v, mg x = some u ∧ L2.RelV v u ∧ ∀ as H, Rep w as H t v
  kb : ∀ (f : Nat) x ks pm, tb.fn[f]? = some x → (f, ks, pm) ∈ tb.kb → ∃ a fd ps, mg x = some (.ref a) ∧ PySem.W.keepIn w.K (.ref a) = true ∧ FnG P W' w.K mg base k a fd ps (spF w F f) ∧ KB w.K fd ps ks pm ∧ pm.length = ps.length
  mks : ∀ c ∈ tb.cl, (pg.cls c).isSome = true
  cls : ∀ c cl, pg.cls c = some cl → ClOk w pg F P W' mg base tb k c cl
  kc : ∀ c cl ks pm, pg.cls c = some cl → (c, ks, pm) ∈ tb.kc → ∃ G fd ps, Mk w.K (w.ad c) G ∧ FnG P W' w.K mg base k G fd ps (spF w F cl.init) ∧ KBm w.K fd ps ks pm
  km : ∀ c cl m f ks pm, pg.cls c = some cl → (m, f) ∈ cl.ms → (f, ks, pm) ∈ tb.km → ∃ a fd ps, Meth w.K (w.ad c) (w.nm m) a ∧ FnG P W' w.K mg base k a fd ps (spF w F f) ∧ KBm w.K fd ps ks pm
  tbs : ∀ q c P, w.cs q = some (c, P) → LamX.TabB base mg c P
  er0 : w.hot = false → w.er = none
  cold : w.hot = true → tb.hot = true ∧ tb.fn = [] ∧ (∀ c, pg.cls c = none) ∧ ∀ x ∈ tb.free, x ∈ hotNames
section
variable {w : Wd} {pg : Pg} {tb : Tab} {F : Fn} {P : Program} {W' : World} {mg : Str → Option Value} {base : Heap} {k : Nat}
theorem TabOk.cold_tb (T : TabOk w pg tb F P W' mg base k) (h : (!tb.hot) = true) : w.hot = false := by
  cases e : w.hot with
  | false => rfl
  | true => rw [(T.cold e).1] at h; cases h
theorem TabOk.cold_fn (T : TabOk w pg tb F P W' mg base k) {f : Nat} {x : Str} (h : tb.fn[f]? = some x) : w.hot = false := by
  cases e : w.hot with
  | false => rfl
  | true => rw [(T.cold e).2.1] at h; cases h
theorem TabOk.cold_cls (T : TabOk w pg tb F P W' mg base k) {c : Nat} {cl : Cl} (h : pg.cls c = some cl) : w.hot = false := by
  cases e : w.hot with
  | false => rfl
  | true => rw [(T.cold e).2.2.1 c] at h; cases h
theorem TabOk.cold_free (T : TabOk w pg tb F P W' mg base k) {x : Str} (h : x ∈ tb.free) (hn : x ∉ hotNames) : w.hot = false := by
  cases e : w.hot with
  | false => rfl
  | true => exact absurd ((T.cold e).2.2.2 x h) hn
end
/-- a context in which the compact syntax may be read -/
structure Gd (w : Wd) (pg : Pg) (tb : Tab) (F : Fn) (X : Cx) (N : List Str) (sc own : Scope) (W : WX) (k : Nat) : Prop where
  hK : X.K = w.K
  hN : X.N = N
  hsc : X.env.scope = sc
  loc : ∀ x, own.names.lookup x = some .local → sc.names.lookup x = some .local
  cel : ∀ x, own.names.lookup x = some .cell → sc.names.lookup x = some .cell ∧ X.fn x = true
  nd : N.Nodup
  calm : w.hot = false → X.calm = true
  room : w.hot = false → Room (k + 1) X.A
  un : X.A.units + 16 * (k + 1) + 200 < cLine
  er : ∀ a d c, w.er = some (a, d, c) → (∃ oe, (a, oe) ∈ X.pn ∧ Zc (.ref (w.ad c)) d oe ∧ ∃ vs, oe.data = .fields vs) ∧ ExcC w.K (w.ad c) ∧ XfC w.K (w.ad c) ∧ (∀ b r, (c, b, r) ∈ pg.ekit → PySem.W.kitOne w.K (.ref (w.ad c)) (b.val w) = some r) ∧
    ∀ f, (c, f) ∈ pg.efs → PySem.W.findIn w.K (.ref (w.ad c)) (w.nm f) = some none
  gu : X.A.guards = some []
  takes : Takes X W
  tab : TabOk w pg tb F X.prog X.w X.mg X.base k
  lam : ∀ q c P, w.cs q = some (c, P) → w.nm q ∈ N → X.env.qual ++ ("<lambda>" : Str) = w.nm q ∧ X.env.code = .ref c

/-! ### the judgements, weakened -/
theorem PE.imp {X : Cx} {e : Expr} {t t' : TE} (h : PE X e t) (i : ∀ σ H Q, t' σ H Q → t σ H Q) : PE X e t' := ⟨fun pins s σ H Q I q => h.run pins s σ H Q I (i σ H Q q)⟩
theorem PT.imp {X : Cx} {e : Expr} {t t' : TT} (h : PT X e t) (i : ∀ σ H Q, t' σ H Q → t σ H Q) : PT X e t' := ⟨fun pins s σ H Q I q => h.run pins s σ H Q I (i σ H Q q)⟩
theorem PW.imp {X : Cx} {e : Expr} {t t' : TT} (h : PW X e t) (i : ∀ σ H Q, t' σ H Q → t σ H Q) : PW X e t' := ⟨fun wh pins s σ H Q I q => h.run wh pins s σ H Q I (i σ H Q q)⟩
theorem PA.imp {X : Cx} {e : List Expr} {t t' : TA} (h : PA X e t) (i : ∀ σ H Q, t' σ H Q → t σ H Q) : PA X e t' := ⟨fun pos pins s σ H Q I q => h.run pos pins s σ H Q I (i σ H Q q)⟩
theorem PI.imp {X : Cx} {g e : Expr} {t t' : TI} (h : PI X g e t) (i : ∀ σ H Q, t' σ H Q → t σ H Q) : PI X g e t' := ⟨fun pins s σ H Q I q => h.run pins s σ H Q I (i σ H Q q)⟩
/-! ### from the checker's words to the rules' premises -/
theorem visB_ok {sc : Scope} {x : Str} (h : visB sc x = true) : Vis sc x := by
  unfold visB at h
  split at h
  · exact .inl (by assumption)
  · exact .inr (.inl (by assumption))
  · exact .inr (.inr (by assumption))
  · cases h
theorem glB_ok {X : Cx} {sc : Scope} {x : Str} (hs : X.env.scope = sc) (h : glB sc x = true) : Gl X x := by
  unfold glB at h
  split at h
  · show X.env.scope.names.lookup x = _
    rw [hs]
    assumption
  · cases h
theorem okName_ok {x : Str} (h : okName x = true) : (x == ("__debug__" : Str)) = false ∧ (x == ("__classdict__" : Str)) = false ∧ x ≠ "__name__" := by
  unfold okName at h
  rw [Bool.and_eq_true, Bool.and_eq_true, Bool.not_eq_true', Bool.not_eq_true', Bool.not_eq_true'] at h
  exact ⟨h.1.1, h.1.2, fun e => by rw [e] at h; exact absurd h.2 (by decide)⟩
theorem noSet_ok {op : CmpOp} {b : Expr} (h : noSet b = true) : behindInMarks op b = false := by
  cases b <;> first | rfl | (simp [noSet] at h)
theorem star_ok {e : Expr} {es : List Expr} {env : PySem.Env} (h : noStar e = true) : starEach (e :: es) env = (false, eval e env) :: starEach es env := by
  cases e <;> first | rfl | (simp [noStar] at h)
theorem plainO_ok {e : Expr} {f : Str} {env : PySem.Env} {m : Sem Value} (h : plainO e = true) : attributeBase e f env m = m := by
  unfold attributeBase
  split
  · rename_i x p pos
    have h : (x != "super") = true := h
    have c : (x != "super" || f == "__class__" || env.kindOf "super" != some .globalImplicit || env.kindOf "__class__" != some .free) = true := by rw [h]; rfl
    rw [if_pos c]
  · rfl
theorem plainT_ok {e : Expr} {env : PySem.Env} (h : plainT e = true) : ∀ m, isTrue e env m = (do let v ← m; standAt e.pos; holding [v] (truthy v)) := fun m => by
  cases e <;> first | rfl | (simp [plainT] at h; done) | skip
  rename_i op _ _
  cases op <;> first | rfl | (simp [plainT] at h)
theorem noSlice_ok {e : Expr} (h : noSlice e = true) : PlainIx e := fun o i => by
  unfold subscripted
  split
  · simp [noSlice] at h
  · rename_i h2; cases h2
  · rfl
theorem folded_ok {e : Expr} {env : PySem.Env} (h : noSet e = true) : ∀ x, foldedSetIterable e env x = pure x := fun x => by
  unfold foldedSetIterable
  cases e <;> first | rfl | (simp [noSet] at h)
end Mu
end
section
set_option Elab.async false
set_option linter.all false
set_option maxRecDepth 100000
set_option maxHeartbeats 4000010
/-! Mu, part 7: the soundness of expressions. -/
namespace Mu
open PySem
open PySem.Spec
open PyProof.Rows
open L2

section
variable {w : Wd} {pg : Pg} {tb : Tab} {F : Fn} {X : Cx} {N : List Str} {sc own : Scope} {W : WX} {k : Nat}
theorem vis_of (g : Gd w pg tb F X N sc own W k) {x : Str} (h : visB sc x = true) : Vis X.env.scope x := by rw [g.hsc]; exact visB_ok h
theorem at_of (g : Gd w pg tb F X N sc own W k) {i : Nat} {x : Str} (h : N[i]? = some x) : X.N[i]? = some x := by rw [g.hN]; exact h
theorem sx_v (g : Gd w pg tb F X N sc own W k) {i : Nat} {x : Str} {pos : Pos} (h1 : N[i]? = some x) (h2 : visB sc x = true) (h3 : okName x = true) : PE X (.Name x pos) (tX w pg F (.v i) W) := by
  obtain ⟨d1, d2, _⟩ := okName_ok h3
  refine PE.imp (pe_var (i := i) (at_of g h1) (vis_of g h2) d1 d2) fun σ H Q ⟨z, env, S, En, p⟩ => ?_
  have p : PostG (rT w) w z H (match env[i]? with | some (some t) => R.ok t z.st | _ => .bad) Q _ := p
  split at p
  · rename_i t e
    obtain ⟨v, h1, h2⟩ := En.2 i t e
    exact ⟨v, h1, PostG.here (rel := rT w) p S h2⟩
  · exact p.elim
theorem constB_ok {t : T} {c : PySem.Const} {j : Nat} {pos : Pos} (h : constB t c = true) : PE X (.Constant c j pos) (tX w pg F (.c t) W) := by
  have fin : ∀ {v : V}, (∀ as H, Rep w as H t v) → PE X (.Constant c j pos) (tC v) → PE X (.Constant c j pos) (tX w pg F (.c t) W) := fun r q =>
    PE.imp q fun σ H Q ⟨z, env, S, En, p⟩ => PostG.here (rel := rT w) p S (r _ _)
  unfold constB at h
  split at h
  · exact fin (fun _ _ => Rep.of_non) pe_non
  · rw [beq_iff_eq] at h; subst h; exact fin (fun _ _ => Rep.of_bl _) pe_bl
  · rw [decide_eq_true_eq] at h; subst h; exact fin (fun _ _ => Rep.of_int _) pe_int
  · rename_i cs b
    rw [decide_eq_true_eq] at h
    subst h
    refine fin (v := .str b) (fun as H => ?_) pe_str
    have := Rep.of_str (w := w) (as := as) (H := H) b.cps.toList
    exact this
  · cases h
theorem sx_gl (g : Gd w pg tb F X N sc own W k) {n : Nat} {x : Str} {pos : Pos} (h1 : tb.gl[n]? = some x) (h2 : glB sc x = true) (h3 : okName x = true) : PE X (.Name x pos) (tX w pg F (.gl n) W) := by
  obtain ⟨d1, _, _⟩ := okName_ok h3
  refine PE.imp (pe_glob (v := .ref (w.ad n)) (glB_ok g.hsc h2) (g.tab.gl n x h1) rfl d1) fun σ H Q ⟨z, env, S, En, p⟩ => PostG.here (rel := rT w) p S ?_
  show Rep w _ _ (.gl n) _
  unfold Rep
  rfl
theorem sx_gc (g : Gd w pg tb F X N sc own W k) {x : Str} {t : T} {pos : Pos} (h1 : (x, t) ∈ tb.gc) (h2 : glB sc x = true) (h3 : okName x = true) : PE X (.Name x pos) (tX w pg F (.gc x t) W) := by
  obtain ⟨d1, _, _⟩ := okName_ok h3
  obtain ⟨u, v, hm, r, q⟩ := g.tab.gc x t h1
  exact PE.imp (pe_glob (v := v) (glB_ok g.hsc h2) hm r d1) fun σ H Q ⟨z, env, S, En, p⟩ => PostG.here (rel := rT w) p S (q _ _)
theorem sx_bty (g : Gd w pg tb F X N sc own W k) {x : Str} {n : String} {pos : Pos} (h1 : (x, n) ∈ tyNames) (h2 : glB sc x = true) (h3 : okName x = true) (h4 : x ∈ tb.free) : PE X (.Name x pos) (tX w pg F (.bty x n) W) := by
  obtain ⟨d1, _, d3⟩ := okName_ok h3
  have hb : bootBuiltins x = some (.type n) := by
    simp only [tyNames, List.mem_cons, List.not_mem_nil, or_false, Prod.mk.injEq] at h1
    rcases h1 with ⟨rfl, rfl⟩ | ⟨rfl, rfl⟩ | ⟨rfl, rfl⟩ | ⟨rfl, rfl⟩ | ⟨rfl, rfl⟩ | ⟨rfl, rfl⟩ | ⟨rfl, rfl⟩ | ⟨rfl, rfl⟩ | ⟨rfl, rfl⟩ <;> decide +kernel
  refine PE.imp (pe_bltn (v := .ty n) (glB_ok g.hsc h2) (g.tab.free x h4) hb rfl d3 d1) fun σ H Q ⟨z, env, S, En, p⟩ => PostG.here (rel := rT w) p S ?_
  show Rep w _ _ (.ty n) _
  unfold Rep
  rfl
theorem units_of (g : Gd w pg tb F X N sc own W k) : X.A.units + 65 < cLine := by
  have := g.un
  omega
section
variable {a b c : Mu.X} {ea eb ec : Expr} {pos : Pos}
theorem sx_bin (g : Gd w pg tb F X N sc own W k) (op : Operator) (ha : PE X ea (tX w pg F a W)) (hb : PE X eb (tX w pg F b W)) : PE X (.BinOp ea op eb pos) (tX w pg F (.bin op a b) W) :=
  PE.imp (pe_op (op_bin g.hK op) ha hb) fun σ H Q ⟨z, env, S, En, p⟩ =>
    ⟨z, env, S, En, (PostG.bind (rel := rT w) (r := ev pg F a env z.st) p).imp fun x H1 ⟨z1, t, g1, s1, r1, p1⟩ =>
      ⟨z1, env, s1, En.go g1, (PostG.bind (rel := rT w) (r := ev pg F b env z1.st) p1).imp fun y H2 ⟨z2, t2, g2, s2, r2, p2⟩ => ⟨z2, t, t2, _, s2, g2.rep r1, r2, p2⟩⟩⟩
theorem sx_cmp (g : Gd w pg tb F X N sc own W k) (op : CmpOp) (hs : noSet eb = true) (ha : PE X ea (tX w pg F a W)) (hb : PE X eb (tX w pg F b W)) : PE X (.Compare ea [op] [eb] pos) (tX w pg F (.cmp op a b) W) :=
  PE.imp (pe_cmpR (op_cmp g.hK (units_of g) op) ha hb (noSet_ok hs)) fun σ H Q ⟨z, env, S, En, p⟩ =>
    ⟨z, env, S, En, (PostG.bind (rel := rT w) (r := ev pg F a env z.st) p).imp fun x H1 ⟨z1, t, g1, s1, r1, p1⟩ =>
      ⟨z1, env, s1, En.go g1, (PostG.bind (rel := rT w) (r := ev pg F b env z1.st) p1).imp fun y H2 ⟨z2, t2, g2, s2, r2, p2⟩ => ⟨z2, t, t2, _, s2, g2.rep r1, r2, p2⟩⟩⟩
/-- a test's answer by a comparison -/
theorem postB {z : Z} {H : Hp} {o : Option Bool} {Q : Bool → Hp → Prop} {E : XK} (p : PostG rB w z H (match o with | some c => R.ok c z.st | none => .bad) Q E) :
    PostG (rT w) w z H (ofO z.st (o.map .bl)) (fun x H' => ∃ c, x = .bl c ∧ Q c H') E := by
  cases o with
  | none => exact p.elim
  | some c => exact fun z' H' v e g s r => ⟨c, r.bl_inv, p z' H' c e g s rfl⟩
theorem st_cmp (g : Gd w pg tb F X N sc own W k) (op : CmpOp) (hs : noSet eb = true) (ha : PE X ea (tX w pg F a W)) (hb : PE X eb (tX w pg F b W)) : PT X (.Compare ea [op] [eb] pos) (tXT w pg F (.cmp op a b) W) :=
  PT.imp (pt_cmpR (op_cmp g.hK (units_of g) op) ha hb (noSet_ok hs)) fun σ H Q ⟨z, env, S, En, p⟩ =>
    ⟨z, env, S, En, (PostG.bind (rel := rT w) (r := ev pg F a env z.st) p).imp fun x H1 ⟨z1, t, g1, s1, r1, p1⟩ =>
      ⟨z1, env, s1, En.go g1, (PostG.bind (rel := rT w) (r := ev pg F b env z1.st) p1).imp fun y H2 ⟨z2, t2, g2, s2, r2, p2⟩ => ⟨z2, t, t2, _, s2, g2.rep r1, r2, postB p2⟩⟩⟩
theorem marks2 {o p : CmpOp} (h1 : noSet eb = true) (h2 : noSet ec = true) : lastMarks [o, p] [eb, ec] = false := noSet_ok h2
/-- a chain -/
theorem chn_post (o p' : CmpOp) {σ : L2.St} {H : Hp} {Q : VK} {z : Z} {env : Env} (S : StRel w z H) (En : EnvR w z env σ) {t u : T} {x y : V} (r1 : Rep w z.as z.hm t x) (r2 : Rep w z.as z.hm u y)
    (p : PostG (rT w) w z H (match cmpT z.st o t u with
      | some true => (ev pg F c env z.st).bind fun v st => ofO st ((cmpT st p' u v).map .bl)
      | some false => .ok (.bl false) z.st
      | none => .bad) Q (fun cls d H' => W cls d σ H')) :
    rCmp w o x y H fun v H3 => ∃ b, v = .bl b ∧ (if b = true then tX w pg F c W σ H3 fun w' H4 => rCmp w p' y w' H4 Q else Q (.bl false) H3) := by
  cases e : cmpT z.st o t u with
  | none => rw [e] at p; exact p.elim
  | some b =>
    rw [e] at p
    refine ⟨z, t, u, fun _ _ _ => False, S, r1, r2, ?_⟩
    rw [e]
    intro z' H' v e' g' s' r'
    refine ⟨b, r'.bl_inv, ?_⟩
    cases b with
    | true =>
      rw [if_pos rfl]
      have p := PostG.go p g'
      have e'' : z'.st = z.st := e'
      rw [← e''] at p
      exact ⟨z', env, s', En.go g', (PostG.bind (rel := rT w) (r := ev pg F c env z'.st) p).imp fun v2 H4 ⟨z4, t4, g4, s4, r4, p4⟩ => ⟨z4, u, t4, _, s4, g4.rep (g'.rep r2), r4, p4⟩⟩
    | false =>
      rw [if_neg
              Bool.false_ne_true]
      have p := PostG.go p g'
      have e'' : z'.st = z.st := e'
      rw [← e''] at p
      exact PostG.here (rel := rT w) p s' (Rep.of_bl false)
theorem sx_chn (g : Gd w pg tb F X N sc own W k) (o p' : CmpOp) (h1 : noSet eb = true) (h2 : noSet ec = true) (ha : PE X ea (tX w pg F a W)) (hb : PE X eb (tX w pg F b W)) (hc : PE X ec (tX w pg F c W)) :
    PE X (.Compare ea [o, p'] [eb, ec] pos) (tX w pg F (.chn o p' a b c) W) :=
  PE.imp (pe_chain (op_cmp g.hK (units_of g) o) (op_cmp g.hK (units_of g) p') ha hb hc (marks2 h1 h2)) fun σ H Q ⟨z, env, S, En, p⟩ =>
    ⟨z, env, S, En, (PostG.bind (rel := rT w) (r := ev pg F a env z.st) p).imp fun x H1 ⟨z1, t, g1, s1, r1, p1⟩ =>
      ⟨z1, env, s1, En.go g1, (PostG.bind (rel := rT w) (r := ev pg F b env z1.st) p1).imp fun y H2 ⟨z2, t2, g2, s2, r2, p2⟩ => chn_post o p' s2 (En.go (g1.trans g2)) (g2.rep r1) r2 p2⟩⟩
theorem chnB {z : Z} {H : Hp} {r : R T} {f : T → Sto → Option Bool} {Q : Bool → Hp → Prop} {E : XK}
    (p : PostG rB w z H (r.bind fun x st => match f x st with | some d => R.ok d st | none => .bad) Q E) :
    PostG (rT w) w z H (r.bind fun x st => ofO st ((f x st).map .bl)) (fun x H' => ∃ c, x = .bl c ∧ Q c H') E := by
  cases r with
  | ok v st =>
    show PostG (rT w) w z H (ofO st ((f v st).map .bl)) _ E
    have p : PostG rB w z H (match f v st with | some d => R.ok d st | none => .bad) Q E := p
    revert p
    cases f v st with
    | none => exact fun p => p.elim
    | some d => exact fun p z' H' v e g s r => ⟨d, r.bl_inv, p z' H' d e g s rfl⟩
  | exc c ts st => exact p
  | bad => exact p
theorem st_chn (g : Gd w pg tb F X N sc own W k) (o p' : CmpOp) (h1 : noSet eb = true) (h2 : noSet ec = true) (ha : PE X ea (tX w pg F a W)) (hb : PE X eb (tX w pg F b W)) (hc : PE X ec (tX w pg F c W)) :
    PT X (.Compare ea [o, p'] [eb, ec] pos) (tXT w pg F (.chn o p' a b c) W) :=
  PT.imp (pt_chain (op_cmp g.hK (units_of g) o) (op_cmp g.hK (units_of g) p') ha hb hc (marks2 h1 h2)) fun σ H Q ⟨z, env, S, En, p⟩ =>
    ⟨z, env, S, En, (PostG.bind (rel := rT w) (r := ev pg F a env z.st) p).imp fun x H1 ⟨z1, t, g1, s1, r1, p1⟩ =>
      ⟨z1, env, s1, En.go g1, (PostG.bind (rel := rT w) (r := ev pg F b env z1.st) p1).imp fun y H2 ⟨z2, t2, g2, s2, r2, p2⟩ =>
        chn_post (Q := fun x H' => ∃ c, x = .bl c ∧ Q c H') o p' s2 (En.go (g1.trans g2)) (g2.rep r1) r2 (by
          revert p2
          cases cmpT z2.st o t t2 with
          | none => exact fun p => p.elim
          | some d => cases d with
            | true => exact fun p => chnB p
            | false => exact fun p z' H' v e g s r => ⟨false, r.bl_inv, p z' H' false e g s rfl⟩)⟩⟩
/-! ### and, or, not, if -/
variable {rest : List Expr}
theorem sx_and (g : Gd w pg tb F X N sc own W k) (ha : PE X ea (tX w pg F a W)) (hb : PE X (.BoolOp .And (eb :: rest) pos) (tX w pg F b W)) : PE X (.BoolOp .And (ea :: eb :: rest) pos) (tX w pg F (.and2 a b) W) :=
  PE.imp (pe_andT ha hb) fun σ H Q ⟨z, env, S, En, p⟩ => ⟨z, env, S, En, (PostG.bind (rel := rT w) (r := ev pg F a env z.st) p).imp fun x H1 ⟨z1, t, g1, s1, r1, p1⟩ => by
    revert p1
    cases e : truV z1.st t with
    | none => exact fun p => p.elim
    | some b' =>
      intro p
      refine ⟨b', tru_rep g.hK s1 r1 e, ?_⟩
      cases b' with
      | true => rw [if_pos rfl]; exact ⟨z1, env, s1, En.go g1, p⟩
      | false => rw [if_neg Bool.false_ne_true]; exact PostG.here (rel := rT w) p s1 r1⟩
theorem sx_or (g : Gd w pg tb F X N sc own W k) (ha : PE X ea (tX w pg F a W)) (hb : PE X (.BoolOp .Or (eb :: rest) pos) (tX w pg F b W)) : PE X (.BoolOp .Or (ea :: eb :: rest) pos) (tX w pg F (.or2 a b) W) :=
  PE.imp (pe_orT ha hb) fun σ H Q ⟨z, env, S, En, p⟩ => ⟨z, env, S, En, (PostG.bind (rel := rT w) (r := ev pg F a env z.st) p).imp fun x H1 ⟨z1, t, g1, s1, r1, p1⟩ => by
    revert p1
    cases e : truV z1.st t with
    | none => exact fun p => p.elim
    | some b' =>
      intro p
      refine ⟨b', tru_rep g.hK s1 r1 e, ?_⟩
      cases b' with
      | true => rw [if_pos rfl]; exact PostG.here (rel := rT w) p s1 r1
      | false => rw [if_neg Bool.false_ne_true]; exact ⟨z1, env, s1, En.go g1, p⟩⟩
theorem sx_not (g : Gd w pg tb F X N sc own W k) (ha : PE X ea (tX w pg F a W)) : PE X (.UnaryOp .Not ea pos) (tX w pg F (.not1 a) W) :=
  PE.imp (pe_notT ha) fun σ H Q ⟨z, env, S, En, p⟩ => ⟨z, env, S, En, (PostG.bind (rel := rT w) (r := ev pg F a env z.st) p).imp fun x H1 ⟨z1, t, g1, s1, r1, p1⟩ => by
    revert p1
    cases e : truV z1.st t with
    | none => exact fun p => p.elim
    | some b' => exact fun p => ⟨b', tru_rep g.hK s1 r1 e, PostG.here (rel := rT w) p s1 (Rep.of_bl _)⟩⟩
theorem sx_neg (ha : PE X ea (tX w pg F a W)) : PE X (.UnaryOp .USub ea pos) (tX w pg F (.neg a) W) :=
  PE.imp (pe_un un_neg ha) fun σ H Q ⟨z, env, S, En, p⟩ => ⟨z, env, S, En, (PostG.bind (rel := rT w) (r := ev pg F a env z.st) p).imp fun x H1 ⟨z1, t, g1, s1, r1, p1⟩ => by
    cases t
    case int i => exact ⟨i, r1.int_inv, PostG.here (rel := rT w) p1 s1 (Rep.of_int _)⟩
    all_goals exact p1.elim⟩
theorem sx_ite (hc : PT X ec (tXT w pg F c W)) (ha : PE X ea (tX w pg F a W)) (hb : PE X eb (tX w pg F b W)) : PE X (.IfExp ec ea eb pos) (tX w pg F (.ite c a b) W) :=
  PE.imp (pe_ifExp hc ha hb) fun σ H Q ⟨z, env, S, En, p⟩ => ⟨z, env, S, En, (PostG.bind (rel := rB) (r := evT pg F c env z.st) p).imp fun x H1 ⟨z1, t, g1, s1, r1, p1⟩ => by
    have r1 : x = t := r1
    subst r1
    cases x with
    | true => rw [if_pos rfl]; exact ⟨z1, env, s1, En.go g1, p1⟩
    | false => rw [if_neg Bool.false_ne_true]; exact ⟨z1, env, s1, En.go g1, p1⟩⟩
theorem st_and (ha : PT X ea (tXT w pg F a W)) (hb : PW X (.BoolOp .And (eb :: rest) pos) (tXT w pg F b W)) : PW X (.BoolOp .And (ea :: eb :: rest) pos) (tXT w pg F (.and2 a b) W) :=
  PW.imp (pw_and ha hb) fun σ H Q ⟨z, env, S, En, p⟩ => ⟨z, env, S, En, (PostG.bind (rel := rB) (r := evT pg F a env z.st) p).imp fun x H1 ⟨z1, t, g1, s1, r1, p1⟩ => by
    have r1 : x = t := r1
    subst r1
    cases x with
    | true => rw [if_pos rfl]; exact ⟨z1, env, s1, En.go g1, p1⟩
    | false => rw [if_neg Bool.false_ne_true]; exact PostG.here (rel := rB) p1 s1 rfl⟩
theorem st_or (ha : PT X ea (tXT w pg F a W)) (hb : PW X (.BoolOp .Or (eb :: rest) pos) (tXT w pg F b W)) : PW X (.BoolOp .Or (ea :: eb :: rest) pos) (tXT w pg F (.or2 a b) W) :=
  PW.imp (pw_or ha hb) fun σ H Q ⟨z, env, S, En, p⟩ => ⟨z, env, S, En, (PostG.bind (rel := rB) (r := evT pg F a env z.st) p).imp fun x H1 ⟨z1, t, g1, s1, r1, p1⟩ => by
    have r1 : x = t := r1
    subst r1
    cases x with
    | true => rw [if_pos rfl]; exact PostG.here (rel := rB) p1 s1 rfl
    | false => rw [if_neg Bool.false_ne_true]; exact ⟨z1, env, s1, En.go g1, p1⟩⟩
theorem st_not (ha : PT X ea (tXT w pg F a W)) : PT X (.UnaryOp .Not ea pos) (tXT w pg F (.not1 a) W) :=
  PT.imp (pt_not ha) fun σ H Q ⟨z, env, S, En, p⟩ => ⟨z, env, S, En, (PostG.bind (rel := rB) (r := evT pg F a env z.st) p).imp fun x H1 ⟨z1, t, g1, s1, r1, p1⟩ => by
    have r1 : x = t := r1
    subst r1
    exact PostG.here (rel := rB) p1 s1 rfl⟩
theorem st_tr (g : Gd w pg tb F X N sc own W k) (h : plainT ea = true) (ha : PE X ea (tX w pg F a W)) : PT X ea (tXT w pg F (.tr a) W) :=
  PT.imp (pt_truth ha (plainT_ok h)) fun σ H Q ⟨z, env, S, En, p⟩ => ⟨z, env, S, En, (PostG.bind (rel := rT w) (r := ev pg F a env z.st) p).imp fun x H1 ⟨z1, t, g1, s1, r1, p1⟩ => by
    revert p1
    cases e : truV z1.st t with
    | none => exact fun p => p.elim
    | some b' => exact fun p => ⟨b', tru_rep g.hK s1 r1 e, PostG.here (rel := rB) p s1 rfl⟩⟩
/-! ### argument lists, displays -/
theorem sxs_nil : PA X [] (tXs w pg F .nil W) := PA.imp pa_nil fun σ H Q ⟨z, env, S, En, p⟩ => PostG.here (rel := rTs w) p S Reps.nil
theorem sxs_cons {es : List Expr} {as : Xs} (h : noStar ea = true) (ha : PE X ea (tX w pg F a W)) (hr : PA X es (tXs w pg F as W)) : PA X (ea :: es) (tXs w pg F (.cons a as) W) :=
  PA.imp (pa_cons ha hr (star_ok h)) fun σ H Q ⟨z, env, S, En, p⟩ =>
    ⟨z, env, S, En, (PostG.bind (rel := rT w) (r := ev pg F a env z.st) p).imp fun x H1 ⟨z1, t, g1, s1, r1, p1⟩ =>
      ⟨z1, env, s1, En.go g1, (PostG.bind (rel := rTs w) (r := evs pg F as env z1.st) p1).imp fun y H2 ⟨z2, t2, g2, s2, r2, p2⟩ => PostG.here (rel := rTs w) p2 s2 (Reps.cons (g2.rep r1) r2)⟩⟩
theorem mk_post {kk : Bool} {z : Z} {H : Hp} {ob : O} {ho : HO} {Q : VK} {E : XK} (p : PostG (rT w) w z H (mkO kk z.st ob) Q E) (s : StRel w z H) (r : RepO w z.as z.hm ob ho) (hl : ∀ c fs ts, ob ≠ .ins c fs ts) (hnt : ob.nt = true := by rfl) : ∀ a, H a = none → Q (.ref a) (upd H a ho) := fun a ha => by
  cases kk with
  | true =>
    obtain ⟨s', g'⟩ := s.cell ha r hnt
    refine PostG.at (rel := rT w) (z1 := ⟨z.as ++ [a], z.hm, z.st ++ [some ob]⟩) p g' s' ?_
    show Rep w _ _ (.cell z.st.length) _
    unfold Rep
    exact ⟨a, by rw [← s.len]; exact app_end z.as a, rfl⟩
  | false =>
    cases ob with
    | lst ts =>
      obtain ⟨vs, rfl, q⟩ := r
      exact post_lst p s q a ha
    | dic ks ts =>
      obtain ⟨kvs, rfl, q1, q2⟩ := r
      obtain ⟨s', g'⟩ := s.laid (o := .dK kvs) ha
      refine PostG.at (rel := rT w) (z1 := ⟨z.as, upd z.hm a (.dK kvs), z.st⟩) p g' s' ?_
      show Rep w _ _ (.dic ks ts) _
      unfold Rep
      exact ⟨a, kvs, rfl, upd_same, q1, g'.reps q2⟩
    | ins c fs ts => exact (hl c fs ts rfl).elim
    | tab q => cases hnt
theorem sx_tup {es : List Expr} {as : Xs} {k1} (h : PA X es (tXs w pg F as W)) : PE X (.Tuple es k1 pos) (tX w pg F (.tup as) W) :=
  PE.imp (pe_tup h) fun σ H Q ⟨z, env, S, En, p⟩ => ⟨z, env, S, En, (PostG.bind (rel := rTs w) (r := evs pg F as env z.st) p).imp fun x H1 ⟨z1, t, g1, s1, r1, p1⟩ => by
    have p1 : PostG (rT w) w z1 H1 (if t.length ≤ big then .ok (.tup t) z1.st else .bad) Q _ := p1
    by_cases hb : t.length ≤ big
    · rw [if_pos hb] at p1
      exact ⟨by rw [← r1.length, ← big_line]; exact hb, post_tup p1 s1 r1⟩
    · rw [if_neg hb] at p1
      exact p1.elim⟩
theorem sx_lst {es : List Expr} {as : Xs} {kk : Bool} (h : PA X es (tXs w pg F as W)) : PE X (.List es pos) (tX w pg F (.lst kk as) W) :=
  PE.imp (pe_lst h) fun σ H Q ⟨z, env, S, En, p⟩ => ⟨z, env, S, En, (PostG.bind (rel := rTs w) (r := evs pg F as env z.st) p).imp fun x H1 ⟨z1, t, g1, s1, r1, p1⟩ => by
    have p1 : PostG (rT w) w z1 H1 (if t.length ≤ big then mkO kk z1.st (.lst t) else .bad) Q _ := p1
    by_cases hb : t.length ≤ big
    · rw [if_pos hb] at p1
      exact ⟨by rw [← r1.length, ← big_line]; exact hb, mk_post p1 s1 ⟨x, rfl, r1⟩ (fun _ _ _ e => nomatch e)⟩
    · rw [if_neg hb] at p1
      exact p1.elim⟩
theorem sx_dnew {kk : Bool} : PE X (.Dict [] [] pos) (tX w pg F (.dnew kk) W) :=
  PE.imp pe_dnewK fun σ H Q ⟨z, env, S, En, p⟩ => mk_post (ob := .dic [] []) p S ⟨[], rfl, rfl, Reps.nil⟩ (fun _ _ _ e => nomatch e)
/-! ### items, slices, fields -/
theorem sx_ix (g : Gd w pg tb F X N sc own W k) (h : noSlice eb = true) (ha : PE X ea (tX w pg F a W)) (hb : PE X eb (tX w pg F b W)) : PE X (.Subscript ea eb pos) (tX w pg F (.ix a b) W) :=
  PE.imp (pe_ix (ix_mu g.hK (units_of g)) ha hb (noSlice_ok h)) fun σ H Q ⟨z, env, S, En, p⟩ =>
    ⟨z, env, S, En, (PostG.bind (rel := rT w) (r := ev pg F a env z.st) p).imp fun x H1 ⟨z1, t, g1, s1, r1, p1⟩ =>
      ⟨z1, env, s1, En.go g1, (PostG.bind (rel := rT w) (r := ev pg F b env z1.st) p1).imp fun y H2 ⟨z2, t2, g2, s2, r2, p2⟩ => ⟨z2, t, t2, _, s2, g2.rep r1, r2, p2⟩⟩⟩
abbrev rOI : Z → Option Int → Option Int → Prop := fun _ b c => c = b
def tXO (w : Wd) (pg : Pg) (F : Fn) (c : Xs) (W : WX) : TO := fun σ H Q => ∃ z env, StRel w z H ∧ EnvR w z env σ ∧ PostG rOI w z H (evO pg F c env z.st) Q (fun cls d H' => W cls d σ H')
theorem PO.imp {e : Option Expr} {t t' : TO} (h : PO X e t) (i : ∀ σ H Q, t' σ H Q → t σ H Q) : PO X e t' := ⟨fun pins s σ H Q I q => h.run pins s σ H Q I (i σ H Q q)⟩
theorem so_none : PO X none (tXO w pg F .nil W) := PO.imp po_none fun σ H Q ⟨z, env, S, En, p⟩ => PostG.here (rel := rOI) p S rfl
theorem so_some (ha : PE X ea (tX w pg F a W)) : PO X (some ea) (tXO w pg F (.cons a .nil) W) :=
  PO.imp (po_some ha) fun σ H Q ⟨z, env, S, En, p⟩ => ⟨z, env, S, En, (PostG.bind (rel := rT w) (r := ev pg F a env z.st) p).imp fun x H1 ⟨z1, t, g1, s1, r1, p1⟩ => by
    cases t
    case int i => exact ⟨i, r1.int_inv, PostG.here (rel := rOI) p1 s1 rfl⟩
    all_goals exact p1.elim⟩
theorem sx_sl (g : Gd w pg tb F X N sc own W k) {lo hi : Option Expr} {l h : Xs} {p2 : Pos} (ha : PE X ea (tX w pg F a W)) (hl : PO X lo (tXO w pg F l W)) (hh : PO X hi (tXO w pg F h W)) :
    PE X (.Subscript ea (.Slice lo hi none p2) pos) (tX w pg F (.sl a l h) W) :=
  PE.imp (pe_slice (sl_mu g.hK) ha hl hh) fun σ H Q ⟨z, env, S, En, p⟩ =>
    ⟨z, env, S, En, (PostG.bind (rel := rT w) (r := ev pg F a env z.st) p).imp fun x H1 ⟨z1, t, g1, s1, r1, p1⟩ =>
      ⟨z1, env, s1, En.go g1, (PostG.bind (rel := rOI) (r := evO pg F l env z1.st) p1).imp fun y H2 ⟨z2, t2, g2, s2, r2, p2⟩ =>
        ⟨z2, env, s2, En.go (g1.trans g2), (PostG.bind (rel := rOI) (r := evO pg F h env z2.st) p2).imp fun y3 H3 ⟨z3, t3, g3, s3, r3, p3⟩ =>
          ⟨z3, t, (fun cls d H' => W cls d σ H'), s3, (g2.trans g3).rep r1, by obtain rfl : y = t2 := r2; obtain rfl : y3 = t3 := r3; exact p3⟩⟩⟩⟩
end
end
end Mu
end
section
set_option Elab.async false
set_option linter.all false
set_option maxRecDepth 100000
set_option maxHeartbeats 4000010
/-! Mu, part 8: fields, built-ins, methods, calls. -/
namespace Mu
open PySem
open PySem.Spec
open PyProof.Rows
open L2

/-! ### fields -/
theorem lookup_fs {w : Wd} {as : List Addr} {H : Hp} {f : Nat} : ∀ {fs : List Nat} {ts : List T} {kvs : List (Str × V)} {t : T}, kvs.map (·.1) = fs.map w.nm → Reps w as H ts (kvs.map (·.2)) →
    (∀ g ∈ fs, w.nm g = w.nm f → g = f) → findF f fs ts = some t → ∃ v, kvs.lookup (w.nm f) = some v ∧ Rep w as H t v
  | [], _, _, _, _, _, _, h => by cases h
  | _ :: _, [], _, _, _, _, _, h => by cases h
  | _ :: _, _ :: _, [], _, m, _, _, _ => by simp at m
  | g :: fs, u :: ts, (x, v) :: kvs, t, m, r, inj, h => by
    simp only [List.map_cons, List.cons.injEq] at m
    obtain ⟨v', r', e, q, r2⟩ := Reps.cons_inv r
    simp only [List.map_cons,
            List.cons.injEq] at e
    obtain ⟨rfl, e2⟩ := e
    subst e2
    simp only [findF] at h
    by_cases hg : g = f
    · rw [if_pos hg] at h
      cases h
      refine ⟨v, ?_, q⟩
      have : x = w.nm f := by rw [m.1, hg]
      rw [this]
      simp [List.lookup]
    · rw [if_neg hg] at h
      have hx : ¬ (w.nm f = x) := fun e => hg (inj g List.mem_cons_self (by rw [← m.1, ← e]))
      obtain ⟨v2, h1, h2⟩ := lookup_fs (f := f) m.2 r2 (fun g' hg' => inj g' (List.mem_cons_of_mem _ hg')) h
      refine ⟨v2, ?_, h2⟩
      have hb : (w.nm f == x) = false := beq_eq_false_iff_ne.mpr hx
      simp only [List.lookup, hb]
      exact h1
theorem lookup_no {w : Wd} {m : Str} : ∀ {fs : List Nat} {kvs : List (Str × V)}, kvs.map (·.1) = fs.map w.nm → (∀ g ∈ fs, w.nm g ≠ m) → kvs.lookup m = none
  | [], [], _, _ => rfl
  | [], _ :: _, h, _ =>
          by simp at h
  | _ :: _, [], _, _ => rfl
  | g :: fs, (x, v) :: kvs, h, n => by
    simp only [List.map_cons,
            List.cons.injEq] at h
    have hb : (m == x) = false := beq_eq_false_iff_ne.mpr fun e => n g List.mem_cons_self (by rw [← h.1, ← e])
    simp only [List.lookup, hb]
    exact lookup_no h.2 fun g' hg' => n g' (List.mem_cons_of_mem _ hg')
theorem star_no : ∀ {es : List Expr} {env : PySem.Env} {pos : Pos}, es.all noStar = true → (backTo pos (starEach es env)).any (·.1) = false
  | [], _, _, _ => rfl
  | e :: es, env, pos, h => by
    rw [List.all_cons,
            Bool.and_eq_true] at h
    rw [star_ok h.1]
    show (false || (backTo pos (starEach es env)).any (·.1)) = false
    rw [Bool.false_or]
    exact star_no h.2
theorem star_all : ∀ {es : List Expr} {env : PySem.Env} {pos : Pos}, es.all noStar = true → (backTo pos (starEach es env)).all (fun x => !x.1) = true
  | [], _, _, _ => rfl
  | e :: es, env, pos, h => by
    rw [List.all_cons,
            Bool.and_eq_true] at h
    rw [star_ok h.1]
    show (true && (backTo pos (starEach es env)).all (fun x => !x.1)) = true
    rw [Bool.true_and]
    exact star_all h.2
theorem few_ok {es : List Expr} {env : PySem.Env} {pos : Pos} (h : es.all noStar = true) (hl : es.length < 20) :
    ((backTo pos (starEach es env)).all (fun x => !x.1) && (backToKw pos (keywordEach [] env)).all (fun x => x.1.isSome) && decide (es.length + ([] : List Keyword).length + (if ([] : List Keyword).isEmpty then 0 else 1) < 30)) = true := by
  rw [star_all h]
  show (true && true && decide (es.length + 0 + 0 < 30)) = true
  have : es.length + 0 + 0 < 30 := by omega
  rw [decide_eq_true this]
  rfl
section
variable {w : Wd} {pg : Pg} {tb : Tab} {F : Fn} {X : Cx} {N : List Str} {sc own : Scope} {W : WX} {k : Nat} {a : Mu.X} {ea : Expr} {pos apos p0 : Pos} {as : Xs} {e : Expr} {es : List Expr}
theorem sx_fld (g : Gd w pg tb F X N sc own W k) {f : Nat} {x : Str} (hx : tb.name f = x) (h : plainO ea = true) (ha : PE X ea (tX w pg F a W)) : PE X (.Attribute ea x pos) (tX w pg F (.fld a f) W) := by
  subst hx
  refine PE.imp (pe_fld ha (plainO_ok h)) fun σ H Q ⟨z, env, S, En, p⟩ => ⟨z, env, S, En, (PostG.bind (rel := rT w) (r := ev pg F a env z.st) p).imp fun x H1 ⟨z1, t, g1, s1, r1, p1⟩ => ?_⟩
  revert p1
  cases hi : insOf z1.st t with
  | none => exact fun p => p.elim
  | some q =>
    obtain ⟨c, fs, ts⟩ := q
    intro p1
    have p1 : PostG (rT w) w z1 H1 (match pg.cls c with
      | some cl => if f ∈ cl.fs ∧ (∀ g ∈ fs, g ∈ cl.fs) then ofO z1.st (findF f fs ts) else .bad
      | none => .bad) Q _ := p1
    revert p1
    cases hc : pg.cls c with
    | none => exact fun p => p.elim
    | some cl =>
      intro p1
      have p1 : PostG (rT w) w z1 H1 (if f ∈ cl.fs ∧ (∀ g ∈ fs, g ∈ cl.fs) then ofO z1.st (findF f fs ts) else .bad) Q _ := p1
      by_cases hf : f ∈ cl.fs ∧ (∀ g ∈ fs, g ∈ cl.fs)
      · rw [if_pos hf] at p1
        obtain ⟨tr, hF, p1⟩ := post_is p1
        obtain ⟨ad, dx, kvs, e1, e2, e3, e4⟩ := insOf_rep s1 hi r1
        have co := g.tab.cls c cl hc
        obtain ⟨v, h1, h2⟩ := lookup_fs e3 e4 (fun g' hg' e' => (co.inj f hf.1 g' (.inl (hf.2 g' hg')) e'.symm).symm) hF
        refine ⟨ad, w.ad c, dx, kvs, v, e1, e2, by rw [g.hK]; exact co.cls, by rw [g.hK, ← g.tab.nm]; exact co.no f hf.1, by rw [← g.tab.nm]; exact h1, PostG.here (rel := rT w) p1 s1 h2⟩
      · rw [if_neg hf] at p1
        exact p1.elim
/-! ### built-in functions -/
theorem call_any (g : Gd w pg tb F X N sc own W k) (b : B) (hf : bName b ∈ tb.free) : CallR X (bVal b) (rBl w pg b) := by
  cases b
  case len => exact bl_len g.hK
  case sum => exact bl_sum g.hK (g.calm (g.tab.cold_free hf (by decide)))
  case all => exact bl_all (g.calm (g.tab.cold_free hf (by decide)))
  case any => exact bl_any (g.calm (g.tab.cold_free hf (by decide)))
  case maxL => exact bl_maxL g.hK (g.calm (g.tab.cold_free hf (by decide)))
  case minL => exact bl_minL g.hK (g.calm (g.tab.cold_free hf (by decide)))
  case max2 => exact bl_max2 (g.calm (g.tab.cold_free hf (by decide)))
  case min2 => exact bl_min2 (g.calm (g.tab.cold_free hf (by decide)))
  case tuple => exact bl_tuple g.hK
  case list => exact bl_list g.hK
  case sorted => exact bl_sorted g.hK (units_of g) (g.calm (g.tab.cold_free hf (by decide)))
  case int => exact bl_int
  case int2 => exact bl_int2
  case str => exact bl_str
  case abs => exact bl_abs
  case divmod => exact bl_divmod
  case isi => exact bl_isi g.hK g.tab.kit
  case repr => exact bl_repr g.hK (units_of g) g.gu
theorem boot_b (b : B) : bootBuiltins (bName b) = some (bVal b) := by cases b <;> decide +kernel
theorem sx_bl (g : Gd w pg tb F X N sc own W k) (b : B) (h2 : glB sc (bName b) = true) (h3 : okName (bName b) = true) (h4 : bName b ∈ tb.free) (hs : (e :: es).all noStar = true) (ha : PA X (e :: es) (tXs w pg F as W)) :
    PE X (.Call (.Name (bName b) p0) (e :: es) [] pos) (tX w pg F (.bl b as) W) := by
  have hc := call_any g b h4
  have hboot := boot_b b
  have hm := g.tab.free _ h4
  have hg := glB_ok g.hsc h2
  obtain ⟨d1, _, d3⟩ := okName_ok h3
  rw [List.all_cons, Bool.and_eq_true] at hs
  have fin : PE X (.Call (.Name (bName b) p0) (e :: es) [] pos) (tCB (rBl w pg b) (tXs w pg F as W)) := by
    cases b
    all_goals first
      | exact pe_callB hc hg hm hboot ha d3 d1 (star_ok hs.1) (star_no hs.2)
      | exact pe_callTy hc hg hm hboot ha d3 d1 (star_ok hs.1) (star_no hs.2)
  exact PE.imp fin fun σ H Q ⟨z, env, S, En, p⟩ => ⟨z, env, S, En, (PostG.bind (rel := rTs w) (r := evs pg F as env z.st) p).imp fun x H1 ⟨z1, t, g1, s1, r1, p1⟩ => ⟨z1, t, _, s1, r1, p1⟩⟩
end
/-! ### dict of pairs -/
section
variable {w : Wd}
theorem repl_rep {as : List Addr} {H : Hp} (ky : Ky) {t : T} {v : V} (rv : Rep w as H t v) : ∀ {ks : List Ky} {ts : List T} {kvs : List (Key × V)}, kvs.map (·.1) = ks.map kyK → Reps w as H ts (kvs.map (·.2)) →
    (kvs.map fun kv => if kv.1 = kyK ky then (kv.1, v) else kv).map (·.1) = ks.map kyK ∧ Reps w as H (replKy ky t ks ts) ((kvs.map fun kv => if kv.1 = kyK ky then (kv.1, v) else kv).map (·.2))
  | [], ts, [], _, r => ⟨rfl, by
    have : ts = [] := by cases ts with
      | nil => rfl
      | cons t ts => obtain ⟨_, _, e, _⟩ := r.cons_inv; cases e
    subst this
    exact Reps.nil⟩
  | [], _, _ :: _, h, _ => by simp at h
  | _ :: _, _, [], h, _ => by simp at h
  | k' :: ks, [], p :: kvs, _, r => by have := r.nil_inv; simp at this
  | k' :: ks, t' :: ts, p :: kvs, h, r => by
    simp only [List.map_cons,
            List.cons.injEq] at h
    obtain ⟨v', vs, e, r1, r2⟩ := r.cons_inv
    simp only [List.map_cons,
            List.cons.injEq] at e
    obtain ⟨i1, i2⟩ := repl_rep ky rv (ks := ks) (ts := ts) (kvs := kvs) h.2 (by rw [e.2]; exact r2)
    by_cases q : k' = ky
    · have hp : p.1 = kyK ky := by rw [h.1, q]
      simp only [List.map_cons, replKy, if_pos q, if_pos hp]
      exact ⟨by rw [i1, h.1], Reps.cons rv i2⟩
    · have hp : ¬ p.1 = kyK ky := fun z => q (kyK_inj (by rw [← h.1, z]))
      simp only [List.map_cons, replKy, if_neg q, if_neg hp]
      exact ⟨by rw [i1, h.1], Reps.cons (by rw [e.1]; exact r1) i2⟩
theorem put_rep {as : List Addr} {H : Hp} (ky : Ky) {t : T} {v : V} (rv : Rep w as H t v) {ks : List Ky} {ts : List T} {kvs : List (Key × V)} (m : kvs.map (·.1) = ks.map kyK) (r : Reps w as H ts (kvs.map (·.2))) :
    (putK kvs (kyK ky) v).map (·.1) = (putKy ky t ks ts).1.map kyK ∧ Reps w as H (putKy ky t ks ts).2 ((putK kvs (kyK ky) v).map (·.2)) := by
  have hany : (kvs.any fun kv => decide (kv.1 = kyK ky)) = decide (ky ∈ ks) := by
    have h1 : (kvs.any fun kv => decide (kv.1 = kyK ky)) = ((kvs.map (·.1)).any fun x => decide (x = kyK ky)) := by rw [List.any_map]; rfl
    rw [h1, m, List.any_map]
    clear h1 m r
    induction ks with
    | nil => rfl
    | cons a ks ih =>
      rw [List.any_cons, ih]
      by_cases q : a = ky
      · subst q
        simp
      · have q1 : ¬ kyK a = kyK ky := fun z => q (kyK_inj z)
        have q2 : ¬ ky = a := fun z => q z.symm
        simp [q1, q2]
  unfold putK putKy
  rw [hany]
  by_cases q : ky ∈ ks
  · rw [decide_eq_true q, if_pos rfl, if_pos q]
    exact repl_rep ky rv m r
  · rw [decide_eq_false q, if_neg Bool.false_ne_true, if_neg q]
    refine ⟨by rw [List.map_append, List.map_append, m]; rfl, ?_⟩
    rw [List.map_append]
    exact r.append (Reps.cons rv Reps.nil)
end
theorem keyT_kV {w : Wd} {as : List Addr} {H : Hp} {t : T} {ky : Ky} {v : V} (h : keyT t = some ky) (r : Rep w as H t v) : v = kV (kyK ky) := by
  cases t <;> first | (cases h; unfold Rep at r; exact r) | cases h
theorem pairs_rep {w : Wd} {as : List Addr} {H H' : Hp} (hs : ∀ a o, H a = some o → H' a = some o) : ∀ {ts : List T} {ps : List (Ky × T)} {vs : List V}, pairsT ts = some ps → Reps w as H ts vs →
    ∃ (ads : List Addr) (kvs : List (Key × V)), vs = ads.map V.ref ∧ Paired (fun p kv => SqT w.K H' p [kV kv.1, kv.2]) ads kvs ∧ kvs.map (·.1) = (ps.map (·.1)).map kyK ∧ Reps w as H (ps.map (·.2)) (kvs.map (·.2))
  | [], ps, vs, h, r => by
    cases h
    rw [r.nil_inv]
    exact ⟨[], [], rfl, .nil, rfl, Reps.nil⟩
  | t :: ts, ps, vs, h, r => by
    obtain ⟨p, h1, h2⟩ := Option.bind_eq_some_iff.mp (show ((pairT t).bind fun p => (pairsT ts).map fun ps => p :: ps) = some ps from h)
    obtain ⟨ps', h3, h4⟩ := map_some h2
    subst h4
    obtain ⟨v, vs', rfl, r1, r2⟩ := r.cons_inv
    obtain ⟨ads, kvs, rfl, k1, k2, k3⟩ := pairs_rep hs h3 r2
    match t, h1, r1 with
    | .tup [a, b], h1, r1 =>
      obtain ⟨ky, h5, h6⟩ := map_some (show (keyT a).map (fun k => (k, b)) = some p from h1)
      subst h6
      obtain ⟨ad, ws, rfl, q, rr⟩ := r1.tup_inv
      obtain ⟨v1, v2, rfl, q1, q2⟩ := rr.two
      have := keyT_kV h5 q1
      subst this
      exact ⟨ad :: ads, (kyK ky, v2) :: kvs, rfl, .cons (sqT_mono hs q) k1, by rw [List.map_cons, k2]; rfl, Reps.cons q2 k3⟩
theorem merge_rep {w : Wd} {as : List Addr} {H : Hp} : ∀ {ps : List (Ky × T)} {more kvs : List (Key × V)} {ks : List Ky} {ts : List T}, more.map (·.1) = (ps.map (·.1)).map kyK → Reps w as H (ps.map (·.2)) (more.map (·.2)) → kvs.map (·.1) = ks.map kyK → Reps w as H ts (kvs.map (·.2)) →
    (mergeK kvs more).map (·.1) = (dicF ps ks ts).1.map kyK ∧ Reps w as H (dicF ps ks ts).2 ((mergeK kvs more).map (·.2))
  | [], [], kvs, ks, ts, _, _, m, r => ⟨m, r⟩
  | [], _ :: _, _, _, _, h, _, _, _ => by cases h
  | _ :: _, [], _, _, _, h, _, _, _ => by cases h
  | p :: ps, q :: more, kvs, ks, ts, h, hr, m, r => by
    have h1 : q.1 = kyK p.1 ∧ more.map (·.1) = (ps.map (·.1)).map kyK := by simpa using h
    obtain ⟨v, vs, e, r1, r2⟩ := Reps.cons_inv (show Reps w as H (p.2 :: ps.map (·.2)) (q.2 :: more.map (·.2)) from hr)
    cases e
    obtain ⟨m2, r3⟩ := put_rep p.1 r1 m r
    have e : mergeK kvs (q :: more) = mergeK (putK kvs (kyK p.1) q.2) more := by rw [← h1.1]; rfl
    rw [e]
    have q := merge_rep (ps := ps) h1.2 r2 m2 r3
    exact q
def rDmk (w : Wd) (kk : Bool) : List V → Hp → VK → Prop := fun xs H Q => ∃ z t ps E, StRel w z H ∧ Reps w z.as z.hm [t] xs ∧ (lstOf z.st t).bind pairsT = some ps ∧ PostG (rT w) w z H (mkO kk z.st (.dic (dicP ps).1 (dicP ps).2)) Q E
section
variable {w : Wd} {pg : Pg} {tb : Tab} {F : Fn} {X : Cx} {N : List Str} {sc own : Scope} {W : WX} {k : Nat}
theorem call_dmk (g : Gd w pg tb F X N sc own W k) (hf : ("dict" : Str) ∈ tb.free) {kk : Bool} : CallR X (.type "dict") (rDmk w kk) := by
  intro pins s σ H xs us Q I rr ⟨z, t, ps, E, S, rs, hp, p⟩
  obtain ⟨v, e1, r1⟩ := rs.one
  subst e1
  obtain ⟨ts, hl, hps⟩ := Option.bind_eq_some_iff.mp hp
  obtain ⟨a, ws, rfl, q, k⟩ := lstOf_rep S hl r1
  obtain ⟨ads, kvs, rfl, k1, k2, k3⟩ := pairs_rep S.sub hps k
  refine call_dictP (g.calm (g.tab.cold_free hf (by decide))) pins s σ H _ us Q I rr ⟨a, ads, kvs, rfl, SqL.of q, by rw [g.hK]; exact k1, fun b hb => ?_⟩
  obtain ⟨m1, m2⟩ := merge_rep (kvs := []) (ks := []) (ts := []) k2 k3 rfl Reps.nil
  exact mk_post p S ⟨_, rfl, m1, m2⟩ (fun _ _ _ e => nomatch e) rfl b hb
theorem sx_dmk (g : Gd w pg tb F X N sc own W k) {kk : Bool} {a : Mu.X} {a' : Expr} {p0 pos : Pos} (h1 : glB sc "dict" = true) (h2 : okName "dict" = true) (h3 : ("dict" : Str) ∈ tb.free) (h4 : noStar a' = true) (ha : PE X a' (tX w pg F a W)) : PE X (.Call (.Name "dict" p0) [a'] [] pos) (tX w pg F (.dmk kk a) W) := by
  obtain ⟨d1, _, d3⟩ := okName_ok h2
  refine PE.imp (pe_callTy (T := "dict") (call_dmk g h3 (kk := kk)) (glB_ok g.hsc h1) (g.tab.free _ h3) (by decide +kernel) (sxs_cons h4 ha sxs_nil) d3 d1 (star_ok h4) rfl) fun σ H Q ⟨z, env, S, En, p⟩ => ⟨z, env, S, En, ?_⟩
  have p : PostG (rT w) w z H ((ev pg F a env z.st).bind fun x st => match (lstOf st x).bind pairsT with
    | some ps => if ps.length ≤ Mu.big then mkO kk st (.dic (dicP ps).1 (dicP ps).2) else .bad
    | none => .bad) Q _ := p
  show PostG (rTs w) w z H ((ev pg F a env z.st).bind fun x st => .ok [x] st) _ _
  revert p
  cases ev pg F a env z.st with
  | exc c us st => exact fun p => p
  | bad => exact fun p => p
  | ok t st =>
    intro p z' H' vs e g' s' r
    subst e
    have p := PostG.go p g'
    have p : PostG (rT w) w z' H' (match (lstOf z'.st t).bind pairsT with
      | some ps => if ps.length ≤ Mu.big then mkO kk z'.st (.dic (dicP ps).1 (dicP ps).2) else .bad
      | none => .bad) Q _ := p
    cases hp : (lstOf z'.st t).bind pairsT with
    | none => rw [hp] at p; exact p.elim
    | some ps =>
      rw [hp] at p
      have p : PostG (rT w) w z' H' (if ps.length ≤ Mu.big then mkO kk z'.st (.dic (dicP ps).1 (dicP ps).2) else .bad) Q _ := p
      by_cases hb : ps.length ≤ Mu.big
      · rw [if_pos hb] at p
        exact ⟨z', t, ps, _, s', r, hp, p⟩
      · rw [if_neg hb] at p
        exact p.elim
end
/-! ### methods of built-in types -/
def mTy : M → String
  | .append => "list" | .extend => "list" | .pop => "list" | .popAt => "list" | .index => "tuple" | .count => "tuple" | .lindex => "list" | .lcount => "list" | .join => "str" | .split => "str" | .partition => "str" | .startswith => "str" | .get2 => "dict"
def mId : M → String
  | .append => "list.append" | .extend => "list.extend" | .pop => "list.pop" | .popAt => "list.pop" | .index => "tuple.index" | .count => "tuple.count" | .lindex => "list.index" | .lcount => "list.count" | .join => "str.join" | .split => "str.split"
  | .partition => "str.partition" | .startswith => "str.startswith" | .get2 => "dict.get"
def tyM (w : Wd) (m : M) : V → Hp → Prop := fun x H => ∃ z t, StRel w z H ∧ Rep w z.as z.hm t x ∧ rcv z.st m t = true
def rMt (w : Wd) (m : M) : V → List V → Hp → VK → Prop := fun x xs H Q => ∃ z t ts E, StRel w z H ∧ Rep w z.as z.hm t x ∧ Reps w z.as z.hm ts xs ∧ PostG (rT w) w z H (mtT z.st m t ts) Q E
section
variable {w : Wd} {pg : Pg} {tb : Tab} {F : Fn} {X : Cx} {N : List Str} {sc own : Scope} {W : WX} {k : Nat}
theorem cellO_at {st : Sto} {n : Nat} {o : O} (h : cellO st n = some o) : st[n]? = some (some o) := by
  unfold cellO at h
  cases e : st[n]? with
  | none =>
          rw [e] at h; cases h
  | some q =>
    rw [e] at h
    have : q = some o := h
    rw [this]
theorem cell_obj {z : Z} {H : Hp} (S : StRel w z H) {n : Nat} {o : O} {x : V} (h : cellO z.st n = some o) (r : Rep w z.as z.hm (.cell n) x) : ∃ a ho, x = .ref a ∧ z.as[n]? = some a ∧ H a = some ho ∧ RepO w z.as z.hm o ho := by
  obtain ⟨a, ho, e1, e2, e3, q⟩ := S.live n o (cellO_at h)
  unfold Rep at r
  obtain ⟨a', h1, h2⟩ := r
  rw [e1] at h1
  cases h1
  exact ⟨a, ho, h2, e1, e3, q⟩
/-- a cell's object is changed -/
theorem put_post {z : Z} {H : Hp} (S : StRel w z H) {n : Nat} {a : Addr} {ob ob' : O} {ho' : HO} {t : T} {v : V} {Q : VK} {E : XK} (h : cellO z.st n = some ob) (ha : z.as[n]? = some a) (r : RepO w z.as z.hm ob' ho') (rv : Rep w z.as z.hm t v)
    (p : PostG (rT w) w z H (.ok t (putO z.st n ob')) Q E) (hnt : ob'.nt = true := by rfl) : Q v (upd H a ho') := by
  obtain ⟨s', g'⟩ := S.put (cellO_at h) ha r (.inl hnt)
  exact PostG.at (rel := rT w) (z1 := ⟨z.as, z.hm, z.st.set n (some ob')⟩) p g' s' (g'.rep rv)
theorem ty_mu (g : Gd w pg tb F X N sc own W k) (m : M) : TyOk X (mTy m) (tyM w m) := by
  intro pins σ H s x v I r ⟨z, t, S, rp, hr⟩
  have lst : (lstOf z.st t).isSome = true → s.TypeIs v "list" ∧ ∀ a, v = .ref a → ∃ ob, s.heap.get? a = some ob ∧ ob.dict = none := fun h => by
    obtain ⟨ts, hl⟩ := Option.isSome_iff_exists.mp h
    obtain ⟨a, vs, rfl, q, _⟩ := lstOf_rep S hl rp
    cases r
    obtain ⟨its, _, ⟨o, n, e1, c, hd, _⟩, _⟩ := I.list (SqL.of q)
    refine ⟨⟨o, e1, c⟩, fun b e => ?_⟩
    cases e
    exact ⟨o, e1, hd⟩
  cases m with
  | append => exact lst hr
  | extend => exact lst hr
  | pop => exact lst hr
  | popAt => exact lst hr
  | lindex => exact lst hr
  | lcount => exact lst hr
  | get2 =>
    obtain ⟨⟨ks, ts⟩, hl⟩ := Option.isSome_iff_exists.mp hr
    obtain ⟨a, kvs, rfl, q, _⟩ := dicOf_rep S hl rp
    cases r
    obtain ⟨t1, t2, _⟩ := isD_at I (.inl ⟨kvs, .inl q⟩)
    exact ⟨t1, t2⟩
  | join =>
    cases t
    case str cs =>
      cases rp.str_inv
      obtain ⟨tk, rfl⟩ := r
      exact ⟨typeIs_str s _ tk, fun _ e => nomatch e⟩
    all_goals cases hr
  | _ => cases hr
theorem strN_glue (sep : List Nat) : ∀ (xs : List (List Nat)), Str.join (strN sep) (xs.map strN) = strN (joinS sep xs)
  | [] => rfl
  | [_] => rfl
  | x :: y :: r => by
    have ih := strN_glue sep (y :: r)
    show strN x ++ strN sep ++ Str.join (strN sep) ((y :: r).map strN) = strN (x ++ sep ++ joinS sep (y :: r))
    rw [ih]
    show (⟨x.toArray⟩ : Str) ++ (⟨sep.toArray⟩ : Str) ++ (⟨(joinS sep (y :: r)).toArray⟩ : Str) = ⟨(x ++ sep ++ joinS sep (y :: r)).toArray⟩
    rw [str_app, str_app]
theorem strN_join (sep : List Nat) (xs : List (List Nat)) : Txt.join (strN sep) (xs.map strN) = strN (joinS sep xs) := (TL.join_eq _ _).trans (strN_glue sep xs)
theorem len_strN (xs : List (List Nat)) : ((xs.map strN).map (·.length)) = xs.map List.length := by
  rw [List.map_map]
  exact List.map_congr_left fun x _ => str_len x
theorem reps_erase {w : Wd} {as : List Addr} {H : Hp} : ∀ {ts : List T} {vs : List V} (j : Nat), Reps w as H ts vs → Reps w as H (ts.eraseIdx j) (vs.eraseIdx j)
  | [], vs, j, h => by
    cases h.nil_inv
    exact Reps.nil
  | t :: ts, vs, j, h => by
    obtain ⟨v, r, rfl, h1, h2⟩ := h.cons_inv
    cases j with
    | zero => exact h2
    | succ j => exact Reps.cons h1 (reps_erase j h2)
/-- l.count(x), flat items -/
def rCntF (K : PySem.W.Frag) : V → List V → Hp → VK → Prop := fun x xs H Q => ∃ (p : Addr) (ys : List V) (y : V), x = .ref p ∧ xs = [y] ∧ SqL K H p ys ∧ flatV y = true ∧ ys.all flatV = true ∧ Q (.int ((ys.countP fun z => eqV z y) : Nat)) H
theorem count_eqU {y : V} : ∀ {ys : List V} {us : List Value}, Vals ys us → ys.all flatV = true → us.countP (eqU y) = ys.countP fun z => eqV z y
  | _, _, .nil, _ => rfl
  | x :: ys, u :: us, .cons r t, f => by
    rw [List.all_cons,
            Bool.and_eq_true] at f
    rw [List.countP_cons, List.countP_cons, count_eqU t f.2, eqU_of r f.1]
theorem mt_countF {X : Cx} : MtR X "list.count" (rCntF X.K) := by
  intro pins s σ H x
          xs v us Q I rx rxs h
  obtain ⟨p, ys, y, rfl, rfl, hs, fy, fys, q⟩ := h
  cases rx
  obtain ⟨u, rfl,
          ru⟩ := rxs.one
  obtain ⟨its, rv, ⟨⟨cls, dd, data, sl⟩,
          n, ho, hc, hdn, hd⟩, hlen⟩ := I.list hs
  simp only at hc hd
  subst hc hd
  refine call_meets PySem.F.slot_list_count ⟨_, ho,
          rfl⟩ PySem.F.entry_list_count (PySem.F.args_list_count_2 _ _)
    (SeqAt.list_countAt p its.toArray n dd sl u (eqU y)) ⟨ho, fun u' hu' => mem_eqAt ru fy rv fys u' (by simpa using hu'), ?_⟩
  have ec : its.toArray.toList.countP (eqU y) = ys.countP fun z => eqV z y := count_eqU rv fys
  refine ⟨.int ((ys.countP fun z => eqV z y) : Nat), H, I.tok _, ⟨s.toks, ?_⟩, q⟩
  show Value.int ((its.toArray.toList.countP (eqU y) : Nat) : Int) s.toks = Value.int ((ys.countP fun z => eqV z y : Nat) : Int) s.toks
  rw [ec]
theorem reps_count {w : Wd} {as : List Addr} {H : Hp} {x : T} {v : V} (hx : flatT x = true) (rx : Rep w as H x v) : ∀ {ts : List T} {vs : List V}, ts.all flatT = true → Reps w as H ts vs → vs.countP (fun z => eqV z v) = ts.countP fun t => T.eqv t x
  | [], vs, _, h => by cases h.nil_inv; rfl
  | t :: ts, vs, f, h => by
    obtain ⟨u, r, rfl, h1, h2⟩ := h.cons_inv
    rw [List.all_cons,
            Bool.and_eq_true] at f
    rw [List.countP_cons, List.countP_cons, reps_count hx rx f.2 h2, flat_eq f.1 hx h1 rx]
theorem mt_mu (g : Gd w pg tb F X N sc own W k) (m : M) : MtR X (mId m) (rMt w m) := by
  intro pins s σ H x xs v us Q I rx rs ⟨z, t, ts, E, S, rp, rr, p⟩
  have hu := units_of g
  unfold mtT at p
  split at p
  · rename_i n t1
    split at p
    · rename_i ts1 hc
      by_cases hl : ts1.length < big
      · rw [if_pos hl] at p
        obtain ⟨a, ho, rfl, ha, hH, vs, rfl, r1⟩ := cell_obj S hc rp
        obtain ⟨y, rfl, ry⟩ := rr.one
        exact mt_append pins s σ H _ _ v us Q I rx rs ⟨a, vs, y, rfl, rfl, hH, by rw [← r1.length, ← big_line]; exact hl, put_post (ob' := .lst _) S hc ha ⟨_, rfl, r1.append (Reps.cons ry Reps.nil)⟩ Rep.of_non p⟩
      · rw [if_neg hl] at p
        exact p.elim
    · exact p.elim
  · rename_i n t1
    split at p
    · rename_i ts1 us1 hc
      by_cases hl : ts1.length + us1.length ≤ big
      · rw [if_pos hl] at p
        obtain ⟨a, ho, rfl, ha, hH, vs, rfl, r1⟩ := cell_obj S hc rp
        obtain ⟨y, rfl, ry⟩ := rr.one
        obtain ⟨b, ws, rfl, hb, r2⟩ := ry.lst_inv
        exact mt_extend pins s σ H _ _ v us Q I rx rs ⟨a, b, vs, ws, rfl, rfl, hH, S.sub _ _ hb, by rw [← r1.length, ← r2.length, ← big_line]; exact hl, put_post (ob' := .lst _) S hc ha ⟨_, rfl, r1.append r2⟩ Rep.of_non p⟩
      · rw [if_neg hl] at p
        exact p.elim
    · exact p.elim
  · rename_i n
    split at p
    · rename_i ts1 hc
      split at p
      · rename_i tl hg
        obtain ⟨a, ho, rfl, ha, hH, vs, rfl, r1⟩ := cell_obj S hc rp
        cases rr.nil_inv
        rw [List.getLast?_eq_getElem?] at hg
        obtain ⟨y, hy, ry⟩ := r1.get hg
        rw [r1.length] at hy
        exact mt_pop pins s σ H _ _ v us Q I rx rs ⟨a, vs, y, rfl, rfl, hH, hy, put_post (ob' := .lst _) S hc ha ⟨_, rfl, r1.dropLast⟩ ry p⟩
      · exact p.elim
    · exact p.elim
  · rename_i n i1
    split at p
    · rename_i ts1 hc
      split at p
      · rename_i tl hg
        obtain ⟨a, ho, rfl, ha, hH, vs, rfl, r1⟩ := cell_obj S hc rp
        obtain ⟨y0, rfl, ry0⟩ := rr.one
        have ey := ry0.int_inv
        subst ey
        obtain ⟨y, hy, ry⟩ := at_reps r1 hg
        obtain ⟨j, hj, hx, h1, h2, h3⟩ := atI_get hy
        have hz : vs.length ≤ sizeLine := (I.lstM hH).1
        have hn := line63
        have ej : ixJ ts1.length i1 = j := by
          rw [r1.length]
          unfold seqIndex? at hj
          unfold ixJ
          by_cases h0 : 0 ≤ i1
          · rw [if_pos h0]
            simp only [show ¬ i1 < 0 by omega, if_false, h0, h3, decide_true, Bool.and_self, if_true, Option.some.injEq] at hj
            exact hj
          · rw [if_neg h0]
            simp only [show i1 < 0 by omega, if_true, show 0 ≤ i1 + vs.length by omega, show i1 + vs.length < vs.length by omega, decide_true, Bool.and_self, Option.some.injEq] at hj
            exact hj
        exact mt_popAt pins s σ H _ _ v us Q I rx rs ⟨a, vs, i1, j, y, rfl, rfl, hH, by omega, by omega, hj, hx, put_post (ob' := .lst _) S hc ha ⟨_, rfl, by rw [ej]; exact reps_erase j r1⟩ ry p⟩
      · exact p.elim
    · exact p.elim
  · rename_i a1 x1
    split at p
    · rename_i ts1 hl
      by_cases hf : flatT x1 = true ∧ ts1.all flatT = true
      · rw [if_pos hf] at p
        obtain ⟨a, vs, rfl, hH, r1⟩ := lstOf_rep S hl rp
        obtain ⟨y, rfl, ry⟩ := rr.one
        refine mt_countF pins s σ H _ _ v us Q I rx rs ⟨a, vs, y, rfl, rfl, SqL.of hH, flat_V hf.1 ry, flats_V hf.2 r1, ?_⟩
        rw [reps_count hf.1 ry hf.2 r1]
        exact PostG.here (rel := rT w) p S (Rep.of_int _)
      · rw [if_neg hf] at p
        exact p.elim
    · exact p.elim
  · rename_i a1 x1
    split at p
    · rename_i ts1 hl
      by_cases hf : flatT x1 = true ∧ ts1.all flatT = true
      · rw [if_pos hf] at p
        split at p
        · rename_i j hj
          obtain ⟨a, vs, rfl, hH, r1⟩ := lstOf_rep S hl rp
          obtain ⟨y, rfl, ry⟩ := rr.one
          obtain ⟨hjl, h1, h2⟩ := List.findIdx?_eq_some_iff_getElem.mp hj
          obtain ⟨z, hz, rz⟩ := r1.get (List.getElem?_eq_getElem hjl)
          have ft : ∀ t ∈ ts1, flatT t = true := fun t ht => List.all_eq_true.mp hf.2 t ht
          refine mt_index pins s σ H _ _ v us Q I rx rs ⟨a, vs, y, j, z, rfl, rfl, SqL.of hH, flat_V hf.1 ry, flats_V hf.2 r1, hz, ?_, fun m z' hm hz' => ?_, PostG.here (rel := rT w) p S (Rep.of_int _)⟩
          · rw [flat_eq (ft _ (List.getElem_mem hjl)) hf.1 rz ry]
            exact h1
          · obtain ⟨t', ht', rt'⟩ := r1.getV hz'
            obtain ⟨hml, e⟩ := List.getElem?_eq_some_iff.mp ht'
            rw [flat_eq (ft _ (List.mem_of_getElem? ht')) hf.1 rt' ry, ← e]
            have := h2 m hm
            simpa using this
        · exact p.elim
      · rw [if_neg hf] at p
        exact p.elim
    · exact p.elim
  · rename_i k1 d
    split at p
    · rename_i ks1 ts1 ky hd hk
      obtain ⟨a, kvs, rfl, q, m1, r1⟩ := dicOf_rep S hd rp
      obtain ⟨y1, y2, rfl, h1, h2⟩ := rr.two
      have e1 := keyT_rep hk h1
      subst e1
      cases rx
      obtain ⟨u1, u2, rfl, ru1, ru2⟩ := rs.two
      refine d_get2 (by omega) I (.inl ⟨kvs, kyK ky, .inl q, rfl, rfl⟩) ru1 ru2 fun w' s' I' rw' => ⟨_, H, I', rw', ?_⟩
      refine PostG.here (rel := rT w) p S ?_
      have fv := findK_val ky m1 r1
      cases hf : findK ky ks1 ts1 with
      | none => rw [fv.1 hf]; exact h2
      | some t' =>
        obtain ⟨v', e2, r2⟩ := fv.2 t' hf
        rw [e2]
        exact r2
    · exact p.elim
  · rename_i sep a1
    split at p
    · rename_i ys hy
      by_cases hl : (ys.map List.length).sum + ys.length * sep.length ≤ big
      · rw [if_pos hl] at p
        obtain ⟨us1, hu1, hs1⟩ := Option.bind_eq_some_iff.mp hy
        obtain ⟨y, rfl, ry⟩ := rr.one
        obtain ⟨a, vs, rfl, q, r1⟩ : ∃ a vs, y = .ref a ∧ (SqL X.K H a vs ∨ SqT X.K H a vs) ∧ Reps w z.as z.hm us1 vs := by
          unfold seqOf at hu1
          split at hu1
          · cases hu1
            obtain ⟨a, vs, e, q, r1⟩ := ry.tup_inv
            exact ⟨a, vs, e, .inr (by rw [g.hK]; exact sqT_mono S.sub q), r1⟩
          · obtain ⟨a, vs, e, q, r1⟩ := lstOf_rep S hu1 ry
            exact ⟨a, vs, e, .inl (SqL.of q), r1⟩
        rw [strsT_map hs1] at r1
        cases r1.strs
        cases rp.str_inv
        refine mt_join pins s σ H _ _ v us Q I rx rs ⟨strN sep, a, ys.map strN, rfl, rfl, q, ?_, ?_⟩
        · rw [len_strN, List.length_map]
          show _ + ys.length * (strN sep).length ≤ big
          rw [show (strN sep).length = sep.length from str_len sep]
          exact hl
        · rw [strN_join]
          exact PostG.here (rel := rT w) p S (Rep.of_str _)
      · rw [if_neg hl] at p
        exact p.elim
    · exact p.elim
  · exact p.elim
theorem mt_pa (m : M) : PySem.PlainAttrs (mTy m) := by
  cases m
  case append => exact PySem.F.plainAttrs_list
  case extend => exact PySem.F.plainAttrs_list
  case pop => exact PySem.F.plainAttrs_list
  case popAt => exact PySem.F.plainAttrs_list
  case lindex => exact PySem.F.plainAttrs_list
  case lcount => exact PySem.F.plainAttrs_list
  case index => exact PySem.F.plainAttrs_tuple
  case count => exact PySem.F.plainAttrs_tuple
  case get2 => exact PySem.F.plainAttrs_dict
  all_goals exact PySem.F.plainAttrs_str
theorem mt_slot (m : M) : PySem.Slot (mTy m) (mName m) (mId m) := by
  cases m
  case append => exact PySem.F.slot_list_append
  case extend => exact PySem.F.slot_list_extend
  case pop => exact PySem.F.slot_list_pop
  case popAt => exact PySem.F.slot_list_pop
  case lindex => exact PySem.F.slot_list_index
  case lcount => exact PySem.F.slot_list_count
  case index => exact PySem.F.slot_tuple_index
  case count => exact PySem.F.slot_tuple_count
  case get2 => exact PySem.F.slot_dict_get
  case join => exact PySem.F.slot_str_join
  case split => exact PySem.F.slot_str_split
  case partition => exact PySem.F.slot_str_partition
  case startswith => exact PySem.F.slot_str_startswith
theorem mt_ty (m : M) : typeOf (.builtin (mId m)) = pure (.type "method_descriptor") := by
  cases m
  case append => exact PySem.F.type_list_append
  case extend => exact PySem.F.type_list_extend
  case pop => exact PySem.F.type_list_pop
  case popAt => exact PySem.F.type_list_pop
  case lindex => exact PySem.F.type_list_index
  case lcount => exact PySem.F.type_list_count
  case index => exact PySem.F.type_tuple_index
  case count => exact PySem.F.type_tuple_count
  case get2 => exact PySem.F.type_dict_get
  case join => exact PySem.F.type_str_join
  case split => exact PySem.F.type_str_split
  case partition => exact PySem.F.type_str_partition
  case startswith => exact PySem.F.type_str_startswith
variable {a : Mu.X} {ea : Expr} {pos apos p0 : Pos} {as : Xs} {e : Expr} {es : List Expr}
theorem sx_mt0 (g : Gd w pg tb F X N sc own W k) (m : M) (h : plainO ea = true) (hl : (apos.endLine == pos.line) = true) (ha : PE X ea (tX w pg F a W)) :
    PE X (.Call (.Attribute ea (mName m) apos) [] [] pos) (tX w pg F (.mt m a .nil) W) :=
  PE.imp (pe_mG0 (ty_mu g m) (mt_pa m) (mt_slot m) (mt_ty m) (mt_mu g m) ha (plainO_ok h) hl) fun σ H Q ⟨z, env, S, En, p⟩ =>
    ⟨z, env, S, En, (PostG.bind (rel := rT w) (r := ev pg F a env z.st) p).imp fun x H1 ⟨z1, t, g1, s1, r1, p1⟩ => by
      by_cases hc : rcv z1.st m t = true
      · rw [if_pos hc] at p1
        exact ⟨⟨z1, t, s1, r1, hc⟩, z1, t, [], _, s1, r1, Reps.nil, p1⟩
      · rw [if_neg hc] at p1
        exact p1.elim⟩
theorem sx_mt1 (g : Gd w pg tb F X N sc own W k) (m : M) (h : plainO ea = true) (hl : (apos.endLine == pos.line) = true) (hn : (e :: es).length < 20) (hs : (e :: es).all noStar = true) (ha : PE X ea (tX w pg F a W)) (hr : PA X (e :: es) (tXs w pg F as W)) :
    PE X (.Call (.Attribute ea (mName m) apos) (e :: es) [] pos) (tX w pg F (.mt m a as) W) := by
  have hs' := hs
  rw [List.all_cons, Bool.and_eq_true] at hs'
  exact PE.imp (pe_mG (ty_mu g m) (mt_pa m) (mt_slot m) (mt_ty m) (mt_mu g m) ha hr (plainO_ok h) (few_ok hs hn) hl (star_ok hs'.1) (star_no hs'.2)) fun σ H Q ⟨z, env, S, En, p⟩ =>
    ⟨z, env, S, En, (PostG.bind (rel := rT w) (r := ev pg F a env z.st) p).imp fun x H1 ⟨z1, t, g1, s1, r1, p1⟩ => by
      by_cases hc : rcv z1.st m t = true
      · rw [if_pos hc] at p1
        exact ⟨⟨z1, t, s1, r1, hc⟩, z1, env, s1, En.go g1, (PostG.bind (rel := rTs w) (r := evs pg F as env z1.st) p1).imp fun y H2 ⟨z2, t2, g2, s2, r2, p2⟩ => ⟨z2, t, t2, _, s2, g2.rep r1, r2, p2⟩⟩
      · rw [if_neg hc] at p1
        exact p1.elim⟩
end
end Mu
end
section
set_option Elab.async false
set_option linter.all false
set_option maxRecDepth 100000
set_option maxHeartbeats 4000010
/-! Mu, part L: min with a key that is a lambda which takes an item of a tuple. -/
namespace Mu
open PySem PySem.Spec PyProof.Rows L2 PySem.W PySem.SeqAt
/-- lambda x: x[i] -/
structure KeyLam (qual : Str) (params : Arguments) (body : Expr) (scope : Scope) (x : Str) (i : Int) : Prop where
  kind : scope.kind = .function
  co : scope.isCoroutine
          = false
  gen : scope.isGenerator
          = false
  loc : scope.names.lookup
          x = some .local
  noc : ∀ y ∈ scope.names, y.2 ≠ .cell
  bdy : ∃ p kd p2 pos, body = .Subscript (.Name x p) (.Constant (.int i) kd p2) pos
  bind : ∀ (pm cv ctv v : Value), bindArgs (PySem.W.kla_fn "<lambda>" qual params body scope [] pm cv ctv) ⟨[v], []⟩ = pure [(x, v)]
  dbg : (x == ("__debug__" : Str)) = false
section
variable {prog : Program} {w : World} {A : Around} {s : Shared} {E : Value → Shared → Prop} {f c' t : Addr} {qual x : Str} {params : Arguments} {body : Expr} {scope : Scope} {pm ctv y : Value} {items : Array Value} {i : Int} {j : Nat} {Q : Value → Shared → Prop}
theorem call_key (L : KeyLam qual params body scope x i) (hd : A.depth < recursionLimit) (lim : s.heap.NoLimit) (hf : s.heap.get? f = some (PySem.W.kla_obj "<lambda>" qual params body scope [] pm c' ctv)) (hc : s.heap.CodeRec (.ref c') qual)
    (ht : IsTup s.heap t items) (hlo : -(2 ^ 63) ≤ i) (hhi : i < 2 ^ 63) (hj : seqIndex? i items.size = some j) (hy : items[j]? = some y)
    (h : ∀ h' tk, (∀ b o, s.heap.get? b = some o → h'.get? b = some o) → Q y { s with heap := h', toks := tk }) : wpAny (model prog w) A (call (.ref f) [.ref t]) Q E s := by
  have rc : codeAny (model prog w) A (.call (.ref f) ⟨[.ref t], []⟩) (fun r s' => match r with
      | .ok (.ret u) => Q u s'
      | .ok _ => False
      | .error e => E e s') s := by
    refine PySem.W.kla_callFunE hd hf rfl L.co L.gen rfl hc ?_
    rw [L.bind]
    refine wpAny_pure (wpAny_newFunctionEnv L.noc (fun z hz => ?_) (fun h₁ hns hsb => ⟨lim.fresh _ hsb, ?_⟩) L.kind)
    · have e : z = (x, Value.ref t) := by simpa using hz
      rw [e]
      exact L.loc
    · refine PySem.W.kla_codeExpr ?_
      obtain ⟨p, kd, p2, pos, e⟩ := L.bdy
      subst e
      have kp : ∀ b o, s.heap.get? b = some o → h₁.get? b = some o := fun b o e =>
              hsb.extBut b o (Nat.ne_of_lt (Heap.lt_size e)) (Heap.get?_push_of_some _ e)
      refine wpAny_Subscript_Constant_late (wpAny_Name (wpAny_loadName_local (v := .ref t) L.kind L.loc hns ?_ ?_) L.dbg) fun o r => rfl
      · show ([(x, Value.ref t)] : List (Str × Value)).reverse.lookup x = _
        simp [List.lookup]
      · refine wpAny_Constant_int ?_
        have ht' : IsTup h₁ t items := ht.keeps kp
        exact ⟨"tuple", "tuple.__getitem__", slot_tuple_getitem.lookup, ht'.typeIs, getItem_tuple ht' hlo hhi hj hy (h h₁ _ kp)⟩
  refine wpAny_call (codeAny_mono rc fun r s' hq =>
          ?_)
  cases r with
  | error e => exact hq
  | ok fl =>
    cases fl with
    | ret u => exact hq
    | next => exact False.elim hq
    | brk => exact False.elim hq
    | cont => exact False.elim hq
theorem min_list_key {l : Addr} {vs : Array Value} {ks : Nat → Int} (L : KeyLam qual params body scope x i) (hh : A.handled = none) (hd : A.depth < recursionLimit) (hu : A.units + 65 < cLine) (lim : s.heap.NoLimit) (hl : s.heap.IsList l vs) (hn : 0 < vs.size)
    (hf : s.heap.get? f = some (PySem.W.kla_obj "<lambda>" qual params body scope [] pm c' ctv)) (hc : s.heap.CodeRec (.ref c') qual) (hlo : -(2 ^ 63) ≤ i) (hhi : i < 2 ^ 63)
    (hits : ∀ (n : Nat) (v : Value), vs[n]? = some v → ∃ (t : Addr) (items : Array Value) (j : Nat) (u : Tok), v = .ref t ∧ IsTup s.heap t items ∧ seqIndex? i items.size = some j ∧ items[j]? = some (.int (ks n) u))
    (h : ∀ (v : Value) h' tk, vs[argBest (fun a b => dataLt (.int (ks a)) (.int (ks b))) (vs.size - 1)]? = some v → (∀ b o, s.heap.get? b = some o → h'.get? b = some o) → Q v { s with heap := h', toks := tk }) :
    wpAny (model prog w) A (call (.builtin "min") [.ref l] [(Str.ofString "key", .ref f)]) Q E s := by
  refine call_min_walkK (iter_listW (A := A.in1) hh hl fun s₂ e W st hfp hw hk => ?_)
  have sz : s₂.heap.objs.size = s.heap.objs.size + 1 := by rw [e]; exact Heap.size_push ..
  refine ⟨_, _, _, _, _, _, _, (fun s1 => ∃ h' tk, s1 = { s with heap := h', toks := tk } ∧ ∀ b o, s.heap.get? b = some o → h'.get? b = some o), (fun n k _ => ∃ u, k = .int (ks n) u), (fun a b => dataLt (.int (ks a)) (.int (ks b))), rfl, W, st, hfp, hn, ⟨?_, ?_, ?_, ?_⟩, ?_, ?_⟩
  · rintro s1 s2 ⟨h1, t1, rfl, k1⟩ m
    refine ⟨s2.heap, s2.toks, ?_, fun b o eb => m.heap b o (fun hb => ?_) (k1 b o eb)⟩
    · obtain ⟨hp, g, d, tk, os⟩ := s2
      have h1 : g =
              s.gens := m.gens
      have h2 : d =
              s.drawn := m.drawn
      have h3 : os = s.os := m.os
      subst h1
      subst h2
      subst h3
      rfl
    · have lt := Heap.lt_size eb
      rcases List.mem_cons.mp
              hb with z | z
      · rw [z, sz] at lt
        exact absurd lt (Nat.not_lt.mpr (Nat.le_succ _))
      · rw [List.mem_singleton.mp z] at lt
        exact absurd lt (Nat.lt_irrefl _)
  · exact fun _ _ _ _ hv _ => hv
  · rintro n v s1 o Q1 E1 hn1 hP ⟨h1, t1, rfl, k1⟩ hst hS hq
    obtain ⟨t, items, j, u, rfl, ht, hj, hy⟩ := hits n v hP
    refine call_key (A := A.in1) L hd (lim.keeps k1) (k1 _ _ hf) (hc.keeps k1) (ht.keeps k1) hlo hhi hj hy fun h2 t2 k2 => ?_
    exact hq _ _ ⟨h2, t2, rfl, fun b o eb => k2 b o (k1 b o eb)⟩ ⟨let ⟨o, e1, r⟩ := hst.1; ⟨o, k2 _ _ e1, r⟩, let ⟨o, e1, r⟩ := hst.2; ⟨o, k2 _ _ e1, r⟩⟩ (k2 _ _ hS) ⟨u, rfl⟩ fun _ _ hv => hv
  · rintro a b ka kb s1 Q1 E1 _ ⟨u, rfl⟩ ⟨u', rfl⟩ hq
    exact rcLt_alike _ _ A.in1 s1 _ _ _ _ (Reads.int _ _) (Reads.int _ _) rfl (fun e => nomatch e) (by show A.units + 1 + min (PyData.int (ks a)).depth (PyData.int (ks b)).depth < cLine; simp only [PyData.depth]; omega) prog w E1 Q1 hq
  · refine ⟨s₂.heap, s₂.toks, ?_, hk⟩
    rw [e]
  · rintro v s1 hP ⟨h1, t1, rfl, k1⟩
    exact h v h1 t1 hP k1
end

/-! ### a lambda is made -/
section
open LamX
variable {X : Cx} {pins : List (Addr ×
        Obj)} {σ : L2.St} {H : Hp} {s : Shared}
theorem lam_mk {c P : Addr} {q : Str} {ps : Array Value} {params : Arguments} {body : Expr} {scope : Scope} {pos : Pos} {E : Value → Shared → Prop} {Q : Value → Shared → Prop} (I : Inv X pins σ H s) (TB : TabB X.base X.mg c P) (hcode : X.env.code = .ref c) (hq : X.env.qual ++ "<lambda>" = q)
    (hP : H P = some (.tbl ps)) (ht : TriplesOk ps.toList) (ha : ∀ (p : Pos) (cv : Value), codeAmong p ps.toList = some cv → ∃ c', cv = .ref c' ∧ H c' = some (CodeO c' q)) (hdef : defaultsOf params X.env = ([], [])) (hfree : ∀ y ∈ scope.names, y.2 = .free → ∃ c, X.env.cells.lookup y.1 = some c)
    (h : ∀ (f c' : Addr) (pm ctv : Value) (H1 : Hp) (s' : Shared), Inv X pins σ H1 s' → (H1 = H ∨ (H c' = none ∧ H1 = upd (upd H P (.tbl (ps ++ #[rawInt pos.line, rawInt pos.col, .ref c']))) c' (CodeO c' q))) →
      s'.heap.get? f = some (PySem.W.kla_obj "<lambda>" q params body scope (cloFrom X.env.cells scope.names []) pm c' ctv) → H1 f = none → H1 c' = some (CodeO c' q) → Q (.ref f) s') :
    wpAny (model X.prog X.w) X.A (eval (.Lambda
            params body scope pos) X.env) Q E s := by
  subst hq
  refine PySem.W.kla_eval
          hdef ?_
  have bP : s.heap.BuiltinsAt
          X.mg P := TB.bm.keeps I.bk
  have gP : s.heap.get? P = some { cls := .none, data := .fields ps } := I.hok P _ hP
  cases hc : codeAmong
          pos ps.toList with
  | some cv =>
    obtain ⟨c', e,
            hco⟩ := ha pos cv hc
    subst e
    exact PySem.W.kla_makeFunctionHit (mg := X.mg) (c := c) (P := P) (ps := ps) (closure_ok hfree) I.ok.glob (I.mod.glob.keeps I.bk) hcode (TB.code.keeps I.bk) gP ht hc bP fun ctv h' tk hx hsz =>
      h _ c' _ ctv H _ (I.kept fun b o e => Heap.get?_push_of_some _ (hx b o e)) (.inl rfl) (Heap.get?_push_size _ rfl) (I.hok.fresh hsz) hco
  | none =>
    refine PySem.W.kla_makeFunction (mg := X.mg) (c := c) (P := P) (ps := ps) (closure_ok hfree) I.ok.glob (I.mod.glob.keeps I.bk) hcode (TB.code.keeps I.bk) gP ht hc TB.gP bP fun c' ctv h' tk hx hge hlt hrec htb => ?_
    obtain ⟨c2, oc, us, t, e2, hoc, hd, hv⟩ := hrec
    cases e2
    have hsz : s.heap.objs.size ≤ h'.objs.size
            := Nat.le_trans hge (Nat.le_of_lt hlt)
    have nC : H c' = none
            := I.hok.fresh hge
    have n1 : h'.objs.size ≠ c' := Nat.ne_of_gt hlt
    have n2 : h'.objs.size ≠ P := Nat.ne_of_gt (Nat.lt_of_lt_of_le (Heap.lt_size gP) hsz)
    refine h _ c' _ ctv _ _ (inv_table (t' := tk) (q := X.env.qual ++ "<lambda>") (more := #[rawInt pos.line, rawInt pos.col, .ref c']) I hP (fun b o hb e => Heap.get?_push_of_some _ (hx b o hb e)) (Heap.get?_push_of_some _ htb) hge ⟨oc, us, t, Heap.get?_push_of_some _ hoc, hd, hv⟩) (.inr ⟨nC, rfl⟩)
      (Heap.get?_push_size _ rfl) ?_ upd_same
    rw [upd_ne n1, upd_ne n2]
    exact I.hok.fresh hsz
end
/-- the table grows -/
theorem StRel.grow {w : Wd} {z : Z} {H : Hp} (S : StRel w z H) {n q : Nat} {P c' : Addr} {ps : Array Value} {pos : Pos} (hn : z.st[n]? = some (some (.tab q))) (hP : z.as[n]? = some P) (ho : H P = some (.tbl ps)) (ht : TriplesOk ps.toList)
    (ha : ∀ (p : Pos) (cv : Value), codeAmong p ps.toList = some cv → ∃ c', cv = .ref c' ∧ z.hm c' = some (LamX.CodeO c' (w.nm q))) (nC : H c' = none) :
    ∃ z', z'.st = z.st ∧ StRel w z' (upd (upd H P (.tbl (ps ++ #[rawInt pos.line, rawInt pos.col, .ref c']))) c' (LamX.CodeO c' (w.nm q))) ∧ Go z H z' (upd (upd H P (.tbl (ps ++ #[rawInt pos.line, rawInt pos.col, .ref c']))) c' (LamX.CodeO c' (w.nm q))) := by
  obtain ⟨S1, g1⟩ := S.laid (o := LamX.CodeO c' (w.nm q)) nC
  have nPc : P ≠ c' := ne_of_none ho nC
  have eL : (ps ++ #[rawInt pos.line, rawInt pos.col,
          .ref c']).toList = ps.toList ++ [rawInt pos.line, rawInt pos.col, .ref c'] := by simp
  have keep : ∀ b o, z.hm b = some o → upd z.hm c' (LamX.CodeO c' (w.nm q)) b = some o := fun b o e => by
    rw [upd_ne (fun k => no_two (S.sub b o e) (by rw [k]; exact nC))]
    exact e
  obtain ⟨S2, g2⟩ := S1.put (ob := .tab q) (ob' := .tab q) (ho' := .tbl (ps ++ #[rawInt pos.line, rawInt pos.col, .ref c'])) hn hP (by
    refine ⟨_, rfl, by rw [eL]; exact PySem.TriplesOk_snoc _ _ _ _ ht, fun p cv hc => ?_⟩
    rw [eL] at hc
    rcases LamX.among_app _ ht hc with k | k
    · obtain ⟨d, e1, e2⟩ := ha p cv k
      exact ⟨d, e1, keep _ _ e2⟩
    · exact ⟨c', k, upd_same⟩) (.inr rfl)
  have eH : upd (upd H c' (LamX.CodeO c' (w.nm q))) P (.tbl (ps ++ #[rawInt pos.line, rawInt pos.col, .ref c'])) = upd (upd H P (.tbl (ps ++ #[rawInt pos.line, rawInt pos.col, .ref c']))) c' (LamX.CodeO c' (w.nm q)) := by
    funext b
    by_cases h1 : b = P
    · subst h1
      rw [upd_same, upd_ne nPc, upd_same]
    · rw [upd_ne h1]
      by_cases h2 : b = c'
      · subst h2
        rw [upd_same, upd_same]
      · rw [upd_ne h2, upd_ne h2, upd_ne h1]
  have eS : z.st.set n (some (.tab q)) = z.st := by
    apply List.ext_getElem?
    intro j
    by_cases hj : n = j
    · subst hj
      rw [List.getElem?_set_self (List.getElem?_eq_some_iff.mp hn).1, hn]
    · rw [List.getElem?_set_ne hj]
  have g3 := g1.trans g2
  rw [eH] at S2 g3
  exact ⟨_, eS, S2, g3⟩

/-! ### the first of the least -/
theorem best_at (K : List Int) (L : List T) (hl : K.length = L.length) : ∀ (n m : Nat), K.length = m + 1 + n → ∀ (kb : Int) (tb : T), kb = K.getD (argBest (fun a b => decide (K.getD a 0 < K.getD b 0)) m) 0 → L[argBest (fun a b => decide (K.getD a 0 < K.getD b 0)) m]? = some tb →
    L[argBest (fun a b => decide (K.getD a 0 < K.getD b 0)) (m + n)]? = some (bestG kb tb (K.drop (m + 1)) (L.drop (m + 1)))
  | 0, m, h, kb, tb, h1, h2 => by
    rw [List.drop_of_length_le (by omega), List.drop_of_length_le (by omega)]
    exact h2
  | n + 1, m, h, kb, tb, h1, h2 => by
    have hk : m + 1 < K.length := by omega
    have hL : m + 1 < L.length := by omega
    have e1 : K.drop (m + 1) = K[m + 1] :: K.drop (m + 1 + 1) := List.drop_eq_getElem_cons hk
    have e2 : L.drop (m + 1) = L[m + 1] :: L.drop (m + 1 + 1) := List.drop_eq_getElem_cons hL
    have e3 : K.getD (m + 1) 0 = K[m + 1] := by simp [List.getD, List.getElem?_eq_getElem hk]
    have e4 : argBest (fun a b => decide (K.getD a 0 < K.getD b 0)) (m + 1) = if decide (K.getD (m + 1) 0 < K.getD (argBest (fun a b => decide (K.getD a 0 < K.getD b 0)) m) 0) then m + 1 else argBest (fun a b => decide (K.getD a 0 < K.getD b 0)) m := rfl
    rw [← h1, e3] at e4
    have e5 : m + (n + 1) = (m + 1) + n := by omega
    rw [e5, e1, e2]
    unfold bestG
    by_cases hb : K[m + 1] < kb
    · rw [if_pos hb]
      rw [if_pos (decide_eq_true hb)] at e4
      exact best_at K L hl n (m + 1) (by omega) _ _ (by rw [e4, e3]) (by rw [e4, List.getElem?_eq_getElem hL])
    · rw [if_neg hb]
      rw [if_neg (by rw [decide_eq_true_iff]; exact hb)] at e4
      exact best_at K L hl n (m + 1) (by omega) _ _ (by rw [e4, ← h1]) (by rw [e4]; exact h2)
theorem keys_at {i : Int} : ∀ {ts : List T} {ks : List Int}, keysT i ts = some ks → ts.length = ks.length ∧ ∀ (n : Nat) (t : T), ts[n]? = some t → ∃ us k, t = .tup us ∧ atT us i = some (.int k) ∧ k = ks.getD n 0
  | [], ks, h => by
    have h : some [] = some ks := h
    cases h
    exact ⟨rfl, fun n t e => by simp at e⟩
  | x :: ts, ks, h => by
    cases x with
    | tup us =>
      have h : (match atT us i with
        | some (.int k) => (keysT i ts).map fun ks => k :: ks
        | _ => none) = some ks := h
      split at h
      · rename_i k hk
        obtain ⟨ks', e1, e2⟩ := map_some h
        subst e2
        obtain ⟨r1, r2⟩ := keys_at e1
        refine ⟨by simp [r1], fun n t e => ?_⟩
        cases n with
        | zero =>
          simp at e
          exact ⟨us, k, e.symm, hk, rfl⟩
        | succ n =>
          obtain ⟨us', k', a1, a2, a3⟩ := r2 n t (by simpa using e)
          exact ⟨us', k', a1, a2, by simpa using a3⟩
      · cases h
    | _ => exact absurd h (by simp [keysT])
theorem tab_in {q : Nat} : ∀ {st : Sto}, hasTab q st = true → ∃ n : Nat, st[n]? = some (some (.tab q))
  | [], h => by cases h
  | none :: st, h => by
    obtain ⟨n, e⟩ := tab_in (st := st) h
    exact ⟨n + 1, by simpa using e⟩
  | some o :: st, h => by
    cases o with
    | tab r =>
      have h : (decide (r = q) || hasTab q st) = true := h
      rw [Bool.or_eq_true, decide_eq_true_iff] at h
      rcases h with h | h
      · exact ⟨0, by rw [h]; rfl⟩
      · obtain ⟨n, e⟩ := tab_in h
        exact ⟨n + 1, by simpa using e⟩
    | lst _ =>
      obtain ⟨n, e⟩ := tab_in (st := st) h
      exact ⟨n + 1, by simpa using e⟩
    | dic _ _ =>
      obtain ⟨n, e⟩ := tab_in (st := st) h
      exact ⟨n + 1, by simpa using e⟩
    | ins _ _ _ =>
      obtain ⟨n, e⟩ := tab_in (st := st) h
      exact ⟨n + 1, by simpa using e⟩
theorem bind1 (qual x : Str) (p : Pos) (body : Expr) (scope : Scope) (pm cv ctv v : Value) : bindArgs (PySem.W.kla_fn "<lambda>" qual ⟨[], [⟨x, none, p⟩], none, [], [], none, []⟩ body scope [] pm cv ctv) ⟨[v], []⟩ = pure [(x, v)] := by
  have hx : (x == x) = true := beq_self_eq_true x
  have h3 : seqItems? Value.none = pure none := rfl
  simp [bindArgs, h3, List.lookup]
theorem kl_ok {i : Int} {params : Arguments} {body : Expr} {scope : Scope} (h : klB i params body scope = true) (qual : Str) (env : PySem.Env) : ∃ x, KeyLam qual params body scope x i ∧ -(2 ^ 63) ≤ i ∧ i < 2 ^ 63 ∧ defaultsOf params env = ([], []) ∧ scope.names = [(x, .local)] := by
  unfold klB at h
  split at h
  · rename_i x p y p1 j kd p2 pos
    simp only [Bool.and_eq_true, decide_eq_true_eq, Bool.not_eq_true'] at h
    obtain ⟨⟨⟨⟨⟨⟨⟨⟨rfl, rfl⟩, h3⟩, h4⟩, h5⟩, h6⟩, h7⟩, h8⟩, h9⟩ := h
    refine ⟨x, ⟨h6, h7, h8, by rw [h9]; simp [List.lookup], fun y hy => ?_, ⟨_, _, _, _, rfl⟩, fun pm cv ctv v => ?_, h5⟩, h3, h4, rfl, h9⟩
    · rw [h9] at hy
      have e : y = (x, NameKind.local) := by simpa using hy
      rw [e]
      exact fun e => nomatch e
    · exact bind1 _ _ _ _ _ _ _ _ _
  · cases h

theorem vals_getV {vs : List V} {us : List Value} {i : Nat} {u : Value} (r : Vals vs us) (h : us[i]? = some u) : ∃ v, vs[i]? = some v ∧ L2.RelV v u := by
  have hi : i < us.length := (List.getElem?_eq_some_iff.mp h).1
  have hv : i < vs.length := by rw [r.length]; exact hi
  obtain ⟨u', e, q⟩ := r.get (List.getElem?_eq_getElem hv)
  rw [h] at e
  cases e
  exact ⟨_, List.getElem?_eq_getElem hv, q⟩
theorem reps_at {w : Wd} {as : List Addr} {H : Hp} {ts : List T} {vs : List V} {i : Int} {t : T} (r : Reps w as H ts vs) (h : atT ts i = some t) : ∃ (j : Nat) (v : V), seqIndex? i vs.length = some j ∧ vs[j]? = some v ∧ Rep w as H t v := by
  obtain ⟨v, h1, h2⟩ := at_reps r h
  obtain ⟨j, k1, k2, _⟩ := atI_get h1
  exact ⟨j, v, k1, k2, h2⟩
section
variable {w : Wd} {pg : Pg} {tb : Tab} {F : Fn} {X : Cx} {N : List Str} {sc own : Scope} {W : WX} {k : Nat}
theorem sx_minK (g : Gd w pg tb F X N sc own W k) {q : Nat} {i : Int} {a : Mu.X} {a' : Expr} {p0 pos lpos kpos : Pos} {params : Arguments} {body : Expr} {scope : Scope} (h1 : glB sc "min" = true) (h2 : okName "min" = true) (h3 : ("min" : Str) ∈ tb.free) (h4 : noStar a' = true) (hN : tb.name q ∈ N)
    (hk : klB i params body scope = true) (ha : PE X a' (tX w pg F a W)) : PE X (.Call (.Name "min" p0) [a'] [⟨some (Str.ofString "key"), .Lambda params body scope lpos, kpos⟩] pos) (tX w pg F (.minK q a i) W) := by
  obtain ⟨d1, _, d3⟩ := okName_ok h2
  refine ⟨fun pins s σ H Q I ⟨z, env, S, En, p⟩ => ?_⟩
  refine wpAny_Call_Name_kw (ld_blt I (glB_ok g.hsc h1) (g.tab.free _ h3) (show bootBuiltins "min" = some (.builtin "min") by decide +kernel) ?_ d3 d1)
  have pa : PA X [a'] (tCons (tX w pg F a W) tNil) := pa_cons ha pa_nil (star_ok h4)
  refine PyProof.Rows.callWith_kw (thn (pa.run pos pins s σ H (fun vs H1 => ∃ v, vs = [v] ∧ ∃ z1 t, Go z H z1 H1 ∧ StRel w z1 H1 ∧ Rep w z1.as z1.hm t v ∧ PostG (rT w) w z1 H1 (if hasTab q z1.st then ofO z1.st (minKT z1.st t i) else .bad) Q (fun cls d H' => W cls d σ H')) I ⟨z, env, S, En, (PostG.bind (rel := rT w) (r := ev pg F a env z.st) p).imp fun v H1 ⟨z1, t, e1, e2, e3, e4⟩ => ⟨v, rfl, z1, t, e1, e2, e3, e4⟩⟩) fun us s1 ⟨vs, H1, I1, r1, q1⟩ => ?_) ?_ ?_ rfl rfl
  · obtain ⟨v, rfl, z1, t, g1, S1, rv, p1⟩ := q1
    cases ht : hasTab q z1.st with
    | false => rw [ht] at p1; exact p1.elim
    | true =>
    rw [ht] at p1
    obtain ⟨tr, e, p1⟩ := post_is p1
    obtain ⟨n, hn⟩ := tab_in ht
    obtain ⟨c, P, hcs, hasP⟩ := S1.tabs n q hn
    obtain ⟨P', ho, e1, e2, e3, r⟩ := S1.live n _ hn
    rw [hasP] at e1
    cases e1
    obtain ⟨ps, rfl, hto, hca⟩ := r
    obtain ⟨hq, hcode⟩ := g.lam q c P hcs (by rw [g.tab.nm]; exact hN)
    -- what min is asked of
    unfold minKT at e
    split at e
    · rename_i x ts hl
      split at e
      · rename_i kb ks hks
        have e := Option.some.inj e
        obtain ⟨l, vv, rfl, hHl, rl⟩ := lstOf_rep S1 hl rv
        obtain ⟨xk, KL, hlo, hhi, hdef, hnames⟩ := kl_ok hk (w.nm q) X.env
        show wpAny _ _ (evalAll ((do let v ← eval (.Lambda params body scope lpos) X.env; standAt pos; pure v) :: [])) _ _ s1
        refine wpAny_evalAll_cons (wpAny_bind (lam_mk I1 (g.tab.tbs q c P hcs) hcode hq e3 hto (fun p cv hc => let ⟨c', k1, k2⟩ := hca p cv hc; ⟨c', k1, S1.sub _ _ k2⟩) hdef (fun y hy ef => by rw [hnames] at hy; have ey : y = (xk, NameKind.local) := (by simpa using hy); rw [ey] at ef; cases ef) fun f c' pm ctv H2 s2 I2 hH2 hf hfn hco => ?_))
        refine wpAny_bind (wpAny_standAt (wpAny_pure (wpAny_evalAll_nil ?_)))
        -- the store behind it
        have st2 : ∃ z2, z2.st = z1.st ∧ StRel w z2 H2 ∧ Go z1 H1 z2 H2 := by
          rcases hH2 with rfl | ⟨nC, rfl⟩
          · exact ⟨z1, rfl, S1, Go.refl⟩
          · exact S1.grow hn hasP e3 hto hca nC
        obtain ⟨z2, ez, S2, g2⟩ := st2
        have hl2 : lstOf z2.st t = some (x :: ts) := by rw [ez]; exact hl
        obtain ⟨l', vv', el, hHl2, rl2⟩ := lstOf_rep S2 hl2 (g2.rep rv)
        cases el
        obtain ⟨its, ri, pl, _⟩ := I2.list (SqL.of hHl2)
        obtain ⟨u0, us', rfl, ru, rus⟩ : ∃ u0 us', us = u0 :: us' ∧ L2.RelV (V.ref l) u0 ∧ us' = [] := by
          cases r1 with
          | cons a b =>
            cases b
            exact ⟨_, _, rfl, a, rfl⟩
        subst rus
        obtain rfl : u0 = Value.ref l := ru
        obtain ⟨⟨oc, fs, tq, hoc, hdc, hvc⟩, _, _⟩ := I2.hok c' _ hco
        obtain ⟨hlen, hat⟩ := keys_at hks
        have lenI : its.length = (x :: ts).length := by rw [← ri.length, ← rl2.length]
        have hcl : cloFrom X.env.cells scope.names [] = [] := by rw [hnames]; rfl
        rw [hcl] at hf
        have hcold := g.tab.cold_free h3 (show ("min" : Str) ∉ hotNames by decide)
        have hdep := (g.room hcold).dp
        have hun := (g.room hcold).un
        refine min_list_key (ks := fun n => (kb :: ks).getD n 0) KL (g.room hcold).hd (by omega) (by omega) I2.nolimit pl.isList (by rw [List.size_toArray, lenI]; simp) hf ⟨c', oc, fs, tq, rfl, hoc, hdc, hvc⟩ hlo hhi (fun m v hv => ?_) fun v h' tk hv hkp => ?_
        · rw [List.getElem?_toArray] at hv
          obtain ⟨vm, hvm, rvm⟩ := vals_getV ri hv
          obtain ⟨tm, htm, rtm⟩ := rl2.getV hvm
          obtain ⟨us, km, rfl, hatk, hkm⟩ := hat m tm htm
          obtain ⟨pa, ws, rfl, hsq, rws⟩ := rtm.tup_inv
          obtain ⟨j, wv, hj, hw, rw'⟩ := reps_at rws hatk
          obtain ⟨its2, ri2, it2, _⟩ := I2.tuple (by rw [g.hK]; exact sqT_mono S2.sub hsq)
          obtain ⟨uv, huv, ruv⟩ := ri2.get hw
          rw [rw'.int_inv] at ruv
          obtain ⟨tok, rfl⟩ := ruv
          obtain rfl : v = Value.ref pa := rvm
          exact ⟨pa, its2.toArray, j, tok, rfl, it2, by rw [List.size_toArray, ← ri2.length]; exact hj, by rw [List.getElem?_toArray, huv, hkm]⟩
        · rw [List.getElem?_toArray] at hv
          obtain ⟨vm, hvm, rvm⟩ := vals_getV ri hv
          obtain ⟨tm, htm, rtm⟩ := rl2.getV hvm
          have eb : (fun a b => dataLt (.int ((kb :: ks).getD a 0)) (.int ((kb :: ks).getD b 0))) = fun a b => decide ((kb :: ks).getD a 0 < (kb :: ks).getD b 0) := by
            funext a b
            rw [dataLt_int]
          have key := best_at (kb :: ks) (x :: ts) hlen.symm ks.length 0 (by simp; omega) kb x rfl rfl
          rw [Nat.zero_add] at key
          have sz : its.toArray.size - 1 = ks.length := by rw [List.size_toArray, lenI, hlen]; simp
          rw [eb, sz] at htm
          rw [htm] at key
          have key := Option.some.inj key
          have key : tm = tr := key.trans e
          subst key
          exact ⟨vm, H2, I2.kept hkp, rvm, p1 z2 H2 vm ez g2 S2 rtm⟩
      · cases e
    · cases e
  · show backTo pos (starEach [a'] X.env) = _
    rw [star_ok h4]
    rfl
  · show (backTo pos (starEach [a'] X.env)).any (·.1) = false
    rw [star_ok h4]
    rfl
end
end Mu
end
section
set_option Elab.async false
set_option linter.all false
set_option maxRecDepth 100000
set_option maxHeartbeats 4000010
/-! Mu, part Q: isinstance of the handled error, its fields. -/
namespace Mu
open PySem
open PySem.Spec
open PyProof.Rows
open L2
theorem lookE_mem {c : Nat} {b : Ck} {r : Bool} : ∀ {l : List (Nat × Ck × Bool)}, lookE c b l = some r → (c, b, r) ∈ l
  | [], h => by cases h
  | (x, y, q) :: l, h => by
    simp only [lookE] at h
    by_cases e : x = c ∧ y = b
    · rw [if_pos e] at h
      rw [← e.1, ← e.2, ← Option.some.inj h]
      exact List.mem_cons_self
    · rw [if_neg e] at h
      exact List.mem_cons_of_mem _ (lookE_mem h)
section
variable {w : Wd} {pg : Pg} {tb : Tab} {F : Fn} {X : Cx} {N : List Str} {sc own : Scope} {W : WX} {k : Nat}
theorem sx_isE (g : Gd w pg tb F X N sc own W k) {a b : Mu.X} {a' b' : Expr} {p0 pos : Pos} (h1 : glB sc "isinstance" = true) (h2 : okName "isinstance" = true) (h3 : ("isinstance" : Str) ∈ tb.free) (h4 : noStar a' = true) (h5 : noStar b' = true)
    (ha : PE X a' (tX w pg F a W)) (hb : PE X b' (tX w pg F b W)) : PE X (.Call (.Name "isinstance" p0) [a', b'] [] pos) (tX w pg F (.isE a b) W) := by
  obtain ⟨d1, _, d3⟩ := okName_ok h2
  have hr : CallR X (.builtin "isinstance") (fun vs H Q => ∃ z ts E, StRel w z H ∧ Reps w z.as z.hm ts vs ∧ PostG (rT w) w z H (ofO z.st (isEs pg ts)) Q E) := by
    intro pins s σ H xs us Q I rr ⟨z, ts, E, S, rs, p⟩
    obtain ⟨tr, e, p⟩ := post_is p
    unfold isEs at e
    split at e
    · rename_i c fs us' u
      split at e
      · rename_i kb hk
        obtain ⟨r, e2, e3⟩ := map_some e
        subst e3
        obtain ⟨v, y, e1, r1, r2⟩ := rs.two
        subst e1
        unfold Rep at r1
        obtain ⟨ad, d, kvs, her, rfl, hd, _, _⟩ := r1
        obtain ⟨⟨oe, hp, hz, hf⟩, EC, XC, ek, _⟩ := g.er ad d c her
        have hcv : ∀ u, RelV y u → u = kb.val w := by
          unfold ckC at hk
          split at hk
          · cases hk
            unfold Rep at r2
            rw [r2]
            exact fun u q => q
          · cases hk
            unfold Rep at r2
            rw [r2]
            exact fun u q => q
          · cases hk
        refine call_isP hp (by rw [g.hK]; exact EC) hz hf pins s σ H _ us Q I rr ⟨y, kb.val w, r, rfl, hcv, by rw [g.hK]; exact ek _ _ (lookE_mem e2), ?_, PostG.here (rel := rT w) p S (Rep.of_bl r)⟩
        rcases hd with ⟨q, _⟩ | ⟨dd, q1, q2⟩
        · exact .inl q
        · exact .inr ⟨dd, kvs, q1, S.sub _ _ q2⟩
      · cases e
    · cases e
  refine PE.imp (pe_callB hr (glB_ok g.hsc h1) (g.tab.free _ h3) (show bootBuiltins "isinstance" = some (.builtin "isinstance") by decide +kernel) (pa_cons ha (pa_cons hb pa_nil (star_ok h5)) (star_ok h4)) d3 d1 (star_ok h4) (star_no (by rw [List.all_cons, h5]; rfl))) fun σ H Q ⟨z, env, S, En, p⟩ =>
    ⟨z, env, S, En, (PostG.bind (rel := rT w) (r := ev pg F a env z.st) p).imp fun v H1 ⟨z1, t, g1, s1, r1, p1⟩ => ⟨z1, env, s1, En.go g1, (PostG.bind (rel := rT w) (r := ev pg F b env z1.st) p1).imp fun y H2 ⟨z2, u, g2, s2, r2, p2⟩ => ⟨z2, [t, u], _, s2, Reps.cons (g2.rep r1) (Reps.cons r2 Reps.nil), p2⟩⟩⟩
theorem pe_attrF {e : Expr} {te : TE} {n : Str} {pos : Pos} (he : PE X e te) (hb : attributeBase e n X.env (eval e X.env) = eval e X.env := by rfl) : PE X (.Attribute e n pos) (fun σ H _ => te σ H fun _ _ => False) :=
  ⟨fun pins s σ H Q I h => attr_of hb (thn (he.run pins s σ H _ I h) fun u s1 ⟨_, _, _, _, q⟩ => q.elim)⟩
theorem sx_fldE (g : Gd w pg tb F X N sc own W k) {a : Mu.X} {a' : Expr} {f : Nat} {pos : Pos} (h1 : plainO a' = true) (ha : PE X a' (tX w pg F a W)) : PE X (.Attribute a' (tb.name f) pos) (tX w pg F (.fldE a f) W) := by
  have none_ : (∀ c, (∃ a d, w.er = some (a, d, c)) → (c, f) ∉ pg.efs) → PE X (.Attribute a' (tb.name f) pos) (tX w pg F (.fldE a f) W) := fun hno =>
    PE.imp (pe_attrF ha (plainO_ok h1)) fun σ H Q ⟨z, env, S, En, p⟩ => ⟨z, env, S, En, (PostG.bind (rel := rT w) (r := ev pg F a env z.st) p).imp fun v H1 ⟨z1, t, g1, s1, r1, p1⟩ => by
      obtain ⟨tr, e, _⟩ := post_is p1
      unfold fldEs at e
      split at e
      · rename_i c fs ts
        unfold Rep at r1
        obtain ⟨ad, d, kvs, her, _⟩ := r1
        rw [if_neg (fun q => hno c ⟨ad, d, her⟩ q.1)] at e
        cases e
      · cases e⟩
  cases her : w.er with
  | none => exact none_ fun c ⟨_, _, e⟩ => by rw [her] at e; cases e
  | some q =>
    obtain ⟨ad, d, c⟩ := q
    by_cases hm : (c, f) ∈ pg.efs
    · obtain ⟨⟨oe, hp, hz, hf⟩, EC, XC, _, ef⟩ := g.er ad d c her
      refine PE.imp (pe_xfP hp (by rw [g.hK]; exact XC) (by rw [g.hK, ← g.tab.nm]; exact ef f hm) hz hf ha (plainO_ok h1)) fun σ H Q ⟨z, env, S, En, p⟩ => ⟨z, env, S, En, (PostG.bind (rel := rT w) (r := ev pg F a env z.st) p).imp fun v H1 ⟨z1, t, g1, s1, r1, p1⟩ => ?_⟩
      obtain ⟨tr, e, p2⟩ := post_is p1
      unfold fldEs at e
      split at e
      · rename_i c' fs ts
        unfold Rep at r1
        obtain ⟨ad', d', kvs, her', rfl, hd, hn, rr⟩ := r1
        rw [her] at her'
        cases her'
        obtain ⟨hall, e⟩ : (∀ g ∈ fs, g = f) ∧ findF f fs ts = some tr := by
          by_cases q : (c, f) ∈ pg.efs ∧ ∀ g ∈ fs, g = f
          · rw [if_pos q] at e
            exact ⟨q.2, e⟩
          · rw [if_neg q] at e
            cases e
        rcases hd with ⟨_, rfl⟩ | ⟨dd, rfl, hH⟩
        · cases fs with
          | nil => cases e
          | cons _ _ => cases hn
        · obtain ⟨vv, l1, l2⟩ := lookup_fs hn rr (fun g' hg' _ => hall g' hg') e
          exact ⟨rfl, dd, kvs, vv, rfl, s1.sub _ _ hH, by rw [← g.tab.nm]; exact l1, PostG.here (rel := rT w) p2 s1 l2⟩
      · cases e
    · exact none_ fun c' ⟨_, _, e⟩ => by
        rw [her] at e
        cases e
        exact hm
end
end Mu
end
section
set_option Elab.async false
set_option linter.all false
set_option maxRecDepth 100000
set_option maxHeartbeats 4000010
/-! Mu, part 9: calls of defs, of methods; instances made. -/
namespace Mu
open PySem
open PySem.Spec
open PyProof.Rows
open L2

section
variable {w : Wd} {pg : Pg} {tb : Tab} {F : Fn} {X : Cx} {N : List Str} {sc own : Scope} {W : WX} {k : Nat}
variable {a : Mu.X} {ea : Expr} {pos apos p0 : Pos} {as : Xs} {e : Expr} {es : List Expr}
/-- a def runs; what it lets out is taken here -/
theorem run_cl (tk : Takes X W) {pins : List (Addr × Obj)} {σ : L2.St} {H : Hp} {s : Shared} {Q : VK} {us : List Value} {vs : List V} {sp : Sp} {ad : Addr} {fd : FuncData} {ps : List Str} {j : Nat}
    (Fo : FnG X.prog X.w X.K X.mg X.base j ad fd ps sp) (hr : Room j X.A) (gu : X.A.guards = some []) (hb : Binds X.K fd ps []) (I : Inv X pins σ H s) (r : Vals vs us) (h : sp vs H Q (fun c d H' => W c d σ H')) :
    wpAny (model X.prog X.w) X.A (call (.ref ad) us) (EP X pins σ Q) X.xe s := by
  have hl : us.length = ps.length := by rw [← r.length]; exact Fo.len _ _ _ _ h
  have hB := hb s us I.kIn (by rw [List.append_nil]; exact hl)
  rw [List.append_nil] at hB
  refine wpAny_call (codeAny_mono (Fo.run X.A X.stack s H ⟨us, []⟩ us vs Q _ hr gu I.env0 hB r h) fun res s' hq => ?_)
  cases res with
  | error u => exact tk u s' (XE.of_call I (fun _ _ _ z => z) hq)
  | ok fl =>
    cases fl with
    | ret u => exact I.after hq
    | next => exact False.elim hq
    | brk => exact False.elim hq
    | cont => exact False.elim hq
theorem room_of (g : Gd w pg tb F X N sc own W k) (h : w.hot = false) : Room k X.A := (g.room h).mono (Nat.le_succ k)
theorem sx_cl1 (g : Gd w pg tb F X N sc own W k) {f : Nat} {x : Str} (h1 : tb.fn[f]? = some x) (h2 : glB sc x = true) (h3 : okName x = true) (hs : (e :: es).all noStar = true) (hr : PA X (e :: es) (tXs w pg F as W)) :
    PE X (.Call (.Name x p0) (e :: es) [] pos) (tX w pg F (.cl f as) W) := by
  rw [List.all_cons, Bool.and_eq_true] at hs
  obtain ⟨d1, _, _⟩ := okName_ok h3
  obtain ⟨ad, fd, ps, hm, hk, Fo, hb⟩ := g.tab.fn f x h1
  rw [← g.hK] at hk Fo hb
  refine ⟨fun pins s σ H Q I ⟨z, env, S, En, p⟩ => ?_⟩
  refine wpAny_Call_Name_kw (ld_glob I (glB_ok g.hsc h2) hm ?_ d1)
  refine PySem.W.callWith_K (h₀ := X.base) I.ok.mod.kin hk (thn (hr.run pos pins s σ H _ I ⟨z, env, S, En, PostG.bind (rel := rTs w) (r := evs pg F as env z.st) p⟩) fun us s1 ⟨vs, H1, I1, r, z1, ts, g1, s1', r1, p1⟩ => ⟨I1.kIn, ?_⟩) (star_ok hs.1) (star_no hs.2)
  exact run_cl g.takes Fo (room_of g (g.tab.cold_fn h1)) g.gu hb I1 r ⟨z1, ts, s1', r1, p1⟩
theorem sx_cl0 (g : Gd w pg tb F X N sc own W k) {f : Nat} {x : Str} (h1 : tb.fn[f]? = some x) (h2 : glB sc x = true) (h3 : okName x = true) :
    PE X (.Call (.Name x p0) [] [] pos) (tX w pg F (.cl f .nil) W) := by
  obtain ⟨d1, _, _⟩ := okName_ok h3
  obtain ⟨ad, fd, ps, hm, hk, Fo, hb⟩ := g.tab.fn f x h1
  rw [← g.hK] at hk Fo hb
  refine ⟨fun pins s σ H Q I ⟨z, env, S, En, p⟩ => ?_⟩
  refine wpAny_Call_Name_kw (ld_glob I (glB_ok g.hsc h2) hm ?_ d1)
  exact PySem.W.callWith_K0 I.kIn hk (run_cl (us := []) g.takes Fo (room_of g (g.tab.cold_fn h1)) g.gu hb I .nil ⟨z, [], S, Reps.nil, p⟩)
/-! ### all arguments by name -/
theorem kw_names {env : PySem.Env} {pos : Pos} : ∀ {kws : List Keyword}, (backToKw pos (keywordEach kws env)).filterMap (·.1) = kwNames kws
  | [] => rfl
  | ⟨none, e, p⟩ :: kws => kw_names (kws := kws)
  | ⟨some n, e, p⟩ :: kws => congrArg (n :: ·) (kw_names (kws := kws))
theorem kw_all {env : PySem.Env} {pos : Pos} : ∀ {kws : List Keyword}, kws.all (fun k => k.arg.isSome) = true → (backToKw pos (keywordEach kws env)).all (·.1.isSome) = true ∧ (backToKw pos (keywordEach kws env)).any (·.1.isNone) = false ∧ (kwNames kws).length = kws.length
  | [], _ => ⟨rfl, rfl, rfl⟩
  | ⟨none, e, p⟩ :: kws, h => by simp at h
  | ⟨some n, e, p⟩ :: kws, h => by
    obtain ⟨h1, h2, h3⟩ := kw_all (env := env) (pos := pos) (kws := kws) (by simpa using h)
    exact ⟨(show (true && (backToKw pos (keywordEach kws env)).all (·.1.isSome)) = true by rw [h1]; rfl), (show (false || (backToKw pos (keywordEach kws env)).any (·.1.isNone)) = false by rw [h2]; rfl), congrArg Nat.succ h3⟩
def tKs (w : Wd) (pg : Pg) (F : Fn) (c : Xs) (W : WX) : TA := tXs w pg F c W
theorem PK.imp {e : List Keyword} {t t' : TA} (h : PK X e t) (i : ∀ σ H Q, t' σ H Q → t σ H Q) : PK X e t' := ⟨fun pos pins s σ H Q I q => h.run pos pins s σ H Q I (i σ H Q q)⟩
theorem sk_nil : PK X [] (tXs w pg F .nil W) := PK.imp pk_nil fun σ H Q ⟨z, env, S, En, p⟩ => PostG.here (rel := rTs w) p S Reps.nil
theorem sk_cons {kws : List Keyword} {n : Option Str} {kp : Pos} (ha : PE X ea (tX w pg F a W)) (hr : PK X kws (tXs w pg F as W)) : PK X (⟨n, ea, kp⟩ :: kws) (tXs w pg F (.cons a as) W) :=
  PK.imp (pk_cons ha hr) fun σ H Q ⟨z, env, S, En, p⟩ =>
    ⟨z, env, S, En, (PostG.bind (rel := rT w) (r := ev pg F a env z.st) p).imp fun x H1 ⟨z1, t, g1, s1, r1, p1⟩ =>
      ⟨z1, env, s1, En.go g1, (PostG.bind (rel := rTs w) (r := evs pg F as env z1.st) p1).imp fun y H2 ⟨z2, t2, g2, s2, r2, p2⟩ => PostG.here (rel := rTs w) p2 s2 (Reps.cons (g2.rep r1) r2)⟩⟩
theorem vals_pm {vs : List V} {us : List Value} (r : Vals vs us) : ∀ (pm : List Nat), Vals (pm.map fun i => vs.getD i .non) (pm.map fun i => us.getD i .none)
  | [] => .nil
  | i :: pm => by
    refine .cons ?_ (vals_pm r pm)
    show RelV (vs.getD i .non) (us.getD i .none)
    rw [List.getD_eq_getElem?_getD, List.getD_eq_getElem?_getD]
    cases e : vs[i]? with
    | none =>
      have : us[i]? = none := by
        rw [List.getElem?_eq_none_iff] at e ⊢
        rw [← r.length]
        exact e
      rw [this]
      rfl
    | some v =>
      obtain ⟨u, h1, h2⟩ := r.get e
      rw [h1]
      exact h2
theorem reps_pm {as : List Addr} {H : Hp} {ts : List T} {vs : List V} (r : Reps w as H ts vs) : ∀ (pm : List Nat), Reps w as H (pm.map fun i => ts.getD i .non) (pm.map fun i => vs.getD i .non)
  | [] => Reps.nil
  | i :: pm => by
    refine Reps.cons ?_ (reps_pm r pm)
    show Rep w as H (ts.getD i .non) (vs.getD i .non)
    rw [List.getD_eq_getElem?_getD, List.getD_eq_getElem?_getD]
    cases e : ts[i]? with
    | none =>
      have : vs[i]? = none := by
        rw [List.getElem?_eq_none_iff] at e ⊢
        rw [← r.length]
        exact e
      rw [this]
      exact Rep.of_non
    | some t =>
      obtain ⟨v, h1, h2⟩ := r.get e
      rw [h1]
      exact h2
theorem sx_clk (g : Gd w pg tb F X N sc own W k) {f : Nat} {x : Str} {kws : List Keyword} {pm : List Nat} (h1 : tb.fn[f]? = some x) (h2 : glB sc x = true) (h3 : okName x = true) (h4 : (f, kwNames kws, pm) ∈ tb.kb) (hs : kws.all (fun k => k.arg.isSome) = true) (hL : as.len = kws.length)
    (hr : PK X kws (tXs w pg F as W)) : PE X (.Call (.Name x p0) [] kws pos) (tX w pg F (.clk f pm as) W) := by
  obtain ⟨d1, _, _⟩ := okName_ok h3
  obtain ⟨ad, fd, ps, hm, hk, Fo, hb, hpl⟩ := g.tab.kb f x _ pm h1 h4
  rw [← g.hK] at hk Fo hb
  obtain ⟨a1, a2, a3⟩ := kw_all (env := X.env) (pos := pos) hs
  refine ⟨fun pins s σ H Q I ⟨z, env, S, En, p⟩ => ?_⟩
  refine wpAny_Call_Name_kw (ld_glob I (glB_ok g.hsc h2) hm ?_ d1)
  refine PySem.W.callWith_KW0 (h₀ := X.base) I.ok.mod.kin hk a1 (thn (hr.run pos pins s σ H _ I ⟨z, env, S, En, PostG.bind (rel := rTs w) (r := evs pg F as env z.st) p⟩) fun ws s1 ⟨vs, H1, I1, r, z1, ts, g1, s1', r1, p1⟩ => ⟨I1.kIn, ?_⟩) (by rw [a2]; rfl)
  rw [kw_names]
  by_cases hc : (decide (ts.length = as.len) && pm.all (fun i => decide (i < ts.length))) = true
  · rw [if_pos hc] at p1
    rw [Bool.and_eq_true,
            decide_eq_true_eq] at hc
    have sp : spF w F f (pm.map fun i => vs.getD i .non) H1 Q (fun c d H' => W c d σ H') := ⟨z1, _, s1', reps_pm r1 pm, p1⟩
    have hl : ws.length = (kwNames kws).length := by rw [a3, ← hL, ← hc.1, r1.length, r.length]
    refine wpAny_call (codeAny_mono (Fo.run X.A X.stack s1 H1 ⟨[], (kwNames kws).zip ws⟩ (pm.map fun i => ws.getD i .none) _ Q _ (room_of g (g.tab.cold_fn h1)) g.gu I1.env0 (hb s1 ws I1.kIn hl) (vals_pm r pm) sp) fun res s' hq => ?_)
    cases res with
    | error u => exact g.takes u s' (XE.of_call I1 (fun _ _ _ z => z) hq)
    | ok fl =>
      cases fl with
      | ret u => exact I1.after hq
      | next => exact False.elim hq
      | brk => exact False.elim hq
      | cont => exact False.elim hq
  · rw [if_neg hc] at p1
    exact p1.elim
/-! ### instances -/
theorem okDrop_set {n : Nat} {x : Option O} : ∀ {st st' : Sto} {m : Nat}, st.length ≤ m → okDrop n st (st'.set m x) = okDrop n st st'
  | [], _, _, _ => by simp [okDrop]
  | _ :: _, [], _, _ => by simp
  | a :: st, b :: st', 0, h => by simp at h
  | a :: st, b :: st', m + 1, h => by
    have ih := okDrop_set (n := n) (x := x) (st := st) (st' := st') (m := m) (by simpa using h)
    simp only [List.set_cons_succ]
    cases a <;> cases b <;> simp [okDrop, ih]
theorem take_set {α : Type} {x : α} : ∀ {l : List α} {n m : Nat}, n ≤ m → (l.set m x).take n = l.take n
  | [], _, _, _ => by simp
  | _ :: _, 0, _, _ => by simp
  | _ :: _, n + 1, 0, h => by omega
  | a :: l, n + 1, m + 1, h => by simp [take_set (l := l) (show n ≤ m by omega)]
/-- behind a def within another: its own cells go -/
theorem back_post {z z' : Z} {H H' : Hp} (S : StRel w z H) (g' : Go z H z' H') (s' : StRel w z' H') (d : okDrop z.st.length z.st z'.st = true) {t : T} {v : V} (l : t.lt z.st.length = true) (r : Rep w z'.as z'.hm t v) {Q : VK} {E : XK}
    (p : PostG (rT w) w z H (.ok t (z'.st.take z.st.length)) Q E) : Q v H' := by
  obtain ⟨s2, g2⟩ := S.drop g' s' d
  exact p ⟨z.as, z'.hm, z'.st.take z.st.length⟩ H' v rfl g2 s2 (Rep.dropped S g' l r)
theorem Reps.dropped {z z' : Z} {H H' : Hp} (S : StRel w z H) (g' : Go z H z' H') {ts : List T} {vs : List V} (l : T.lts z.st.length ts = true) (h : Reps w z'.as z'.hm ts vs) : Reps w z.as z'.hm ts vs := by
  obtain ⟨m, e⟩ := g'.pre
  have tk : z'.as.take z.st.length = z.as := by rw [e, ← S.len, List.take_left]
  have := Reps.cut z.st.length ts vs l h
  rw [tk] at this
  exact this
theorem back_exc {z z' : Z} {H H' : Hp} (S : StRel w z H) (g' : Go z H z' H') (s' : StRel w z' H') (d : okDrop z.st.length z.st z'.st = true) {c : Nat} {ts : List T} {cls : Value} {dd : Option Addr} (l : T.lts z.st.length ts = true) (r : RepX w z' c ts cls dd H') {Q : VK} {E : XK}
    (p : PostG (rT w) w z H (.exc c ts (z'.st.take z.st.length)) Q E) : E cls dd H' := by
  obtain ⟨s2, g2⟩ := S.drop g' s' d
  obtain ⟨e1, da, kvs, e2, e3, e4, e5⟩ := r
  exact p ⟨z.as, z'.hm, z'.st.take z.st.length⟩ H' cls dd rfl g2 s2 ⟨e1, da, kvs, e2, e3, e4, Reps.dropped S g' l e5⟩
/-- an instance is made: what __init__ must keep -/
theorem inst_post {z : Z} {H : Hp} {c : Nat} {cl : Cl} {ts : List T} {vs : List V} {Q : VK} {E : XK} (hc : pg.cls c = some cl) (S : StRel w z H) (rs : Reps w z.as z.hm ts vs) (p : PostG (rT w) w z H (instNew pg F c ts z.st) Q E)
    {x dx : Addr} (hx : H x = none) (hd : H dx = none) (ne : dx ≠ x) : spF w F cl.init (.ref x :: vs) (upd (upd H dx (.own x)) x (.ins (w.ad c) dx [])) (fun v H2 => v = .non ∧ Q (.ref x) H2) E := by
  obtain ⟨s1, g1⟩ := S.laid (o := .own x) hd
  have hx1 : upd H dx (.own x) x = none := by rw [upd_ne (fun q => ne q.symm)]; exact hx
  obtain ⟨s2, g2⟩ := s1.cell (ob := .ins c [] []) (o := .ins (w.ad c) dx []) hx1 ⟨dx, [], rfl, rfl, Reps.nil⟩
  have g := g1.trans g2
  have hcell : (z.as ++ [x])[z.st.length]? = some x := by rw [← S.len]; exact app_end z.as x
  refine ⟨⟨z.as ++ [x], upd z.hm dx (.own x), z.st ++ [some (.ins c [] [])]⟩, .cell z.st.length :: ts, s2, Reps.cons ?_ (g.reps rs), ?_⟩
  · unfold Rep
    exact ⟨x, hcell, rfl⟩
  · unfold instNew at p
    rw [hc] at p
    revert p
    show PostG (rT w) w z H (match F cl.init (.cell z.st.length :: ts) (z.st ++ [some (.ins c [] [])]) with
      | .ok .non st' => if cl.imm then (match cellO st' z.st.length with
          | some (.ins c' fs us) => if T.lts z.st.length us && okDrop z.st.length z.st st' then .ok (.ins c' fs us) (st'.take z.st.length) else .bad
          | _ => .bad) else .ok (.cell z.st.length) st'
      | .ok _ _ => .bad
      | .exc c us st' => if T.lts z.st.length us && okDrop z.st.length z.st st' then .exc c us (st'.take z.st.length) else .bad
      | .bad => .bad) Q E → PostG (rT w) w _ _ (F cl.init (.cell z.st.length :: ts) (z.st ++ [some (.ins c [] [])])) _ E
    cases F cl.init (.cell z.st.length :: ts) (z.st ++ [some (.ins c [] [])]) with
    | bad => exact fun p => p
    | exc c' us st' =>
      intro p
      have p : PostG (rT w) w z H (if T.lts z.st.length us && okDrop z.st.length z.st st' then .exc c' us (st'.take z.st.length) else .bad) Q E := p
      cases hb : (T.lts z.st.length us && okDrop z.st.length z.st st') with
      | false => rw [hb] at p; exact p.elim
      | true =>
        rw [hb] at p
        rw [Bool.and_eq_true] at hb
        intro z' H' cls dd e g' s' r'
        subst e
        exact back_exc S (g.trans g') s' hb.2 hb.1 r' p
    | ok t st' =>
      cases t
      case non =>
        intro p z' H' v e g' s' r'
        subst e
        refine ⟨r'.non_inv, ?_⟩
        have p : PostG (rT w) w z H (if cl.imm then (match cellO z'.st z.st.length with
          | some (.ins c' fs us) => if T.lts z.st.length us && okDrop z.st.length z.st z'.st then .ok (.ins c' fs us) (z'.st.take z.st.length) else .bad
          | _ => .bad) else .ok (.cell z.st.length) z'.st) Q E := p
        have rc : Rep w z'.as z'.hm (.cell z.st.length) (.ref x) := by
          unfold Rep
          exact ⟨x, g'.at hcell, rfl⟩
        cases him : cl.imm with
        | false =>
          rw [him] at p
          exact p z' H' _ rfl (g.trans g') s' rc
        | true =>
          rw [him] at p
          have p : PostG (rT w) w z H (match cellO z'.st z.st.length with
          | some (.ins c' fs us) => if T.lts z.st.length us && okDrop z.st.length z.st z'.st then .ok (.ins c' fs us) (z'.st.take z.st.length) else .bad
          | _ => .bad) Q E := p
          split at p
          · rename_i c' fs us hcell'
            cases hb : (T.lts z.st.length us && okDrop z.st.length z.st z'.st) with
            | false => rw [hb] at p; exact p.elim
            | true =>
              rw [hb] at p
              rw [Bool.and_eq_true] at hb
              obtain ⟨hm', s3, g3, r3⟩ := s'.freeze rfl (cellO_at hcell') rc
              refine back_post (E := E) (z' := ⟨z'.as, hm', z'.st.set z.st.length none⟩) S ((g.trans g').trans g3) s3 (by show okDrop _ _ (z'.st.set _ _) = true; rw [okDrop_set (Nat.le_refl _)]; exact hb.2) (t := .ins c' fs us) hb.1 r3 ?_
              show PostG (rT w) w z H (.ok (.ins c' fs us) ((z'.st.set z.st.length none).take z.st.length)) Q E
              rw [take_set (Nat.le_refl _)]
              exact p
          · exact p.elim
      all_goals exact fun p => p.elim
theorem run_mk (tk : Takes X W) {pins : List (Addr × Obj)} {σ : L2.St} {H : Hp} {s : Shared} {Q : VK} {us : List Value} {vs : List V} {sp : Sp} {C G : Addr} {fd : FuncData} {ps : List Str} {j : Nat} (M : Mk X.K C G)
    (Fo : FnG X.prog X.w X.K X.mg X.base j G fd ps sp) (hr : Room (j + 1) X.A) (gu : X.A.guards = some []) (hb : Binds X.K fd ps []) (I : Inv X pins σ H s) (r : Vals vs us)
    (h : ∀ x dx, H x = none → H dx = none → dx ≠ x → sp (.ref x :: vs) (upd (upd H dx (.own x)) x (.ins C dx [])) (fun v H2 => v = .non ∧ Q (.ref x) H2) (fun c d H' => W c d σ H')) :
    wpAny (model X.prog X.w) X.A (call (.ref
            C) us) (EP X pins σ Q) X.xe s := by
  have f0 : H s.heap.objs.size = none := I.hok.fresh (Nat.le_refl _)
  have f1 : H (s.heap.objs.size + 1) = none := I.hok.fresh (Nat.le_succ _)
  have hq := h _ _ f1 f0 (Nat.ne_of_lt (Nat.lt_succ_self s.heap.objs.size))
  have J := Inv.made (C := C) I
  have rr : Vals (V.ref (s.heap.objs.size + 1) :: vs) (Value.ref (s.heap.objs.size + 1) :: us) := .cons rfl r
  have hl : (Value.ref (s.heap.objs.size + 1) :: us).length = ps.length := by
    rw [← rr.length]
    exact Fo.len _ _ _ _ hq
  have hB := hb _ (Value.ref (s.heap.objs.size + 1) :: us) J.kIn (by rw [List.append_nil]; exact hl)
  rw [List.append_nil] at hB
  refine wpAny_call (make_map (f := G) I.kIn M.makes M.init (beq_iff_eq.mp M.fn) (codeAny_mono (Fo.run _ X.stack _ _ ⟨Value.ref (s.heap.objs.size + 1) :: us, []⟩ _ _ _ _ (hr.make C us []) (guards_make gu) (J.env0.make C us []) hB rr hq) fun res s' hq' => ?_))
  cases res with
  | error u => exact tk u s' (XE.of_call J (fun _ _ _ z => z) hq')
  | ok fl =>
    cases fl with
    | ret u =>
      obtain ⟨v, H', J3, rv, ev, q3⟩ := J.after hq'
      subst ev
      exact ⟨rv, ⟨V.ref (s.heap.objs.size + 1), H', J3, rfl, q3⟩⟩
    | next =>
            exact False.elim hq'
    | brk => exact False.elim hq'
    | cont =>
            exact False.elim hq'
theorem sx_mk1 (g : Gd w pg tb F X N sc own W k) {c : Nat} {x : Str} (h1 : tb.gl[c]? = some x) (h2 : glB sc x = true) (h3 : okName x = true) (hc : (pg.cls c).isSome = true) (hs : (e :: es).all noStar = true) (hr : PA X (e :: es) (tXs w pg F as W)) :
    PE X (.Call (.Name x p0) (e :: es) [] pos) (tX w pg F (.mk c as) W) := by
  rw [List.all_cons, Bool.and_eq_true] at hs
  obtain ⟨d1, _, _⟩ := okName_ok h3
  obtain ⟨cl, hcl⟩ := Option.isSome_iff_exists.mp hc
  obtain ⟨G, fd, ps, M, Fo, hb⟩ := (g.tab.cls c cl hcl).init
  rw [← g.hK] at M Fo hb
  refine ⟨fun pins s σ H Q I ⟨z, env, S, En, p⟩ => ?_⟩
  refine wpAny_Call_Name_kw (ld_glob I (glB_ok g.hsc h2) (g.tab.gl c x h1) ?_ d1)
  refine PySem.W.callWith_K (h₀ := X.base) I.ok.mod.kin M.kp (thn (hr.run pos pins s σ H _ I ⟨z, env, S, En, PostG.bind (rel := rTs w) (r := evs pg F as env z.st) p⟩) fun us s1 ⟨vs, H1, I1, r, z1, ts, g1, s1', r1, p1⟩ => ⟨I1.kIn, ?_⟩) (star_ok hs.1) (star_no hs.2)
  exact run_mk g.takes M Fo (g.room (g.tab.cold_cls hcl)) g.gu hb I1 r fun x' dx hx hd ne => inst_post hcl s1' r1 p1 hx hd ne
theorem sx_mk0 (g : Gd w pg tb F X N sc own W k) {c : Nat} {x : Str} (h1 : tb.gl[c]? = some x) (h2 : glB sc x = true) (h3 : okName x = true) (hc : (pg.cls c).isSome = true) :
    PE X (.Call (.Name x p0) [] [] pos) (tX w pg F (.mk c .nil) W) := by
  obtain ⟨d1, _, _⟩ := okName_ok h3
  obtain ⟨cl, hcl⟩ := Option.isSome_iff_exists.mp hc
  obtain ⟨G, fd, ps, M, Fo, hb⟩ := (g.tab.cls c cl hcl).init
  rw [← g.hK] at M Fo hb
  refine ⟨fun pins s σ H Q I ⟨z, env, S, En, p⟩ => ?_⟩
  refine wpAny_Call_Name_kw (ld_glob I (glB_ok g.hsc h2) (g.tab.gl c x h1) ?_ d1)
  exact PySem.W.callWith_K0 I.kIn M.kp (run_mk (us := []) g.takes M Fo (g.room (g.tab.cold_cls hcl)) g.gu hb I .nil fun x' dx hx hd ne => inst_post hcl S Reps.nil p hx hd ne)
/-! ### own methods -/
theorem few_form {n : Nat} {env : PySem.Env} (hs : es.all noStar = true) (hl : es.length < 20) : methodCallForm (es.length + ([] : List Keyword).length) (backTo pos (starEach es env)) (backToKw pos (keywordEach [] env)) = true := by
  unfold methodCallForm
  rw [star_all hs]
  show (true && true && decide (es.length + 0 + 0 < 30)) = true
  have : es.length + 0 + 0 < 30 := by omega
  rw [decide_eq_true this]
  rfl
theorem tree_om {env : PySem.Env} {m : Str} (h : plainO ea = true) (hl : (apos.endLine == pos.line) = true) (hn : es.length < 20) (hs : es.all noStar = true) :
    eval (.Call (.Attribute ea m apos) es [] pos) env = (do
      let ov ← eval ea env
      standAt apos.atName
      let (f, first) ← holding [ov] (getMethod ov m (do return (← importBound ea env).getD true))
      callWith pos f first (backTo pos (starEach es env)) (backToKw pos (keywordEach [] env))) := by
  refine mcall_of (plainO_ok h) fun ov => ?_
  unfold methodCall
          calleeOf methodCallPos
  rw [few_form (n := 0) hs hn, hl]
  simp
theorem lookM_mem {m f : Nat} : ∀ {l : List (Nat × Nat)}, lookM m l = some f → (m, f) ∈ l
  | [], h => by cases h
  | (a, b) :: l, h => by
    simp only [lookM] at h
    by_cases e : a = m
    · rw [if_pos e] at h
      cases h
      rw [e]
      exact List.mem_cons_self
    · rw [if_neg e] at h
      exact List.mem_cons_of_mem _ (lookM_mem h)
theorem sx_om (g : Gd w pg tb F X N sc own W k) {m : Nat} {x : Str} (hx : tb.name m = x) (h : plainO ea = true) (hl : (apos.endLine == pos.line) = true) (hn : es.length < 20) (hs : es.all noStar = true) (hz : es = [] → as = .nil)
    (ha : PE X ea (tX w pg F a W)) (hr : PA X es (tXs w pg F as W)) : PE X (.Call (.Attribute ea x apos) es [] pos) (tX w pg F (.om m a as) W) := by
  subst hx
  refine ⟨fun pins s σ H Q I ⟨z, env, S, En, p⟩ => ?_⟩
  refine methcall_of ha I ⟨z, env, S, En, (PostG.bind (rel := rT w) (r := ev pg F a env z.st) p).imp fun y H1 ⟨z1, t, g1, s1, r1, p1⟩ => ?_⟩ (tree_om h hl hn hs)
  revert p1
  cases hi : insOf z1.st t with
  | none => exact fun p => p.elim
  | some q =>
    obtain ⟨c, fs, ts⟩ := q
    intro p1
    have p1 : PostG (rT w) w z1 H1 (match pg.cls c with
      | some cl => match lookM m cl.ms with
        | some f => if m ∉ cl.fs ∧ (∀ g ∈ fs, g ∈ cl.fs) then (evs pg F as env z1.st).bind fun ts st => F f (t :: ts) st else .bad
        | none => .bad
      | none => .bad) Q _ := p1
    revert p1
    cases hc : pg.cls c with
    | none => exact fun p => p.elim
    | some cl =>
      intro p1
      have p1 : PostG (rT w) w z1 H1 (match lookM m cl.ms with
        | some f => if m ∉ cl.fs ∧ (∀ g ∈ fs, g ∈ cl.fs) then (evs pg F as env z1.st).bind fun ts st => F f (t :: ts) st else .bad
        | none => .bad) Q _ := p1
      revert p1
      cases hm : lookM m cl.ms with
      | none => exact fun p => p.elim
      | some f =>
        intro p1
        have p1 : PostG (rT w) w z1 H1 (if m ∉ cl.fs ∧ (∀ g ∈ fs, g ∈ cl.fs) then (evs pg F as env z1.st).bind fun ts st => F f (t :: ts) st else .bad) Q _ := p1
        by_cases hf : m ∉ cl.fs ∧ (∀ g ∈ fs, g ∈ cl.fs)
        · rw [if_pos hf] at p1
          have hmem := lookM_mem hm
          have co := g.tab.cls c cl hc
          obtain ⟨ad, fd, ps, M, Fo, hb⟩ := co.ms m f hmem
          rw [← g.hK] at M Fo hb
          obtain ⟨a', dx, kvs, e1, e2, e3, e4⟩ := insOf_rep s1 hi r1
          have hlk : kvs.lookup (tb.name m) = none := by
            rw [← g.tab.nm]
            exact lookup_no e3 fun g' hg' e' => hf.1 (by
              have := co.inj g' (hf.2 g' hg') m (.inr (List.mem_map.mpr ⟨(m, f), hmem, rfl⟩)) e'
              rw [← this]
              exact hf.2 g' hg')
          rw [← g.tab.nm] at hlk
          refine ⟨a', w.ad c, dx, kvs, ad, e1, e2, by rw [g.hK]; exact co.cls, by rw [← g.tab.nm]; exact M, by rw [← g.tab.nm]; exact hlk, fun s2 I2 => ?_⟩
          subst e1
          cases es with
          | nil =>
            have e0 := hz rfl
            subst e0
            exact PySem.W.callWith_K0 (first := [.ref a']) I2.kIn M.kp (run_cl (us := [.ref a']) (vs := [.ref a']) g.takes Fo (room_of g (g.tab.cold_cls hc)) g.gu hb I2 (.cons rfl .nil) ⟨z1, [t], s1, Reps.cons r1 Reps.nil, p1⟩)
          | cons e es =>
            rw [List.all_cons, Bool.and_eq_true] at hs
            refine PySem.W.callWith_K (first := [.ref a']) (h₀ := X.base) I2.ok.mod.kin M.kp (thn (hr.run pos pins s2 σ H1 _ I2 ⟨z1, env, s1, En.go g1, PostG.bind (rel := rTs w) (r := evs pg F as env z1.st) p1⟩) fun us s3 ⟨vs, H3, I3, r, z3, ts3, g3, s3', r3, p3⟩ => ⟨I3.kIn, ?_⟩) (star_ok hs.1) (star_no hs.2)
            exact run_cl (us := .ref a' :: us) (vs := .ref a' :: vs) g.takes Fo (room_of g (g.tab.cold_cls hc)) g.gu hb I3 (.cons rfl r) ⟨z3, t :: ts3, s3', Reps.cons (g3.rep r1) r3, p3⟩
        · rw [if_neg hf] at p1
          exact p1.elim
end
end Mu
end
section
set_option Elab.async false
set_option linter.all false
set_option maxRecDepth 100000
set_option maxHeartbeats 4000010
/-! Mu, part I: own special methods of instances (len, str, truth, ==, !=), keywords of classes and methods. -/
namespace MuK
open PySem PySem.W PyProof.Rows PySem.SeqAt
section
variable {M : Model} {prog : Program} {w : World} {A : Around} {E : Value → Shared → Prop} {s : Shared} {K : PySem.W.Frag} {x C f L : Addr} {ox : Obj} {od : Option Obj} {b tb : Value} {h₀ : Heap} {m : Str → Option Value}
theorem ifBound_objNe {args : List Value} {Q : Option Value → Shared → Prop} (X : K.In s.heap) (I : PySem.W.InstAt s.heap x ox C od) (hs : PySem.W.findIn K (.ref C) "__ne__" = some (some (.builtin "object.__ne__")))
    (h : wpAny M A (call (.builtin "object.__ne__") (.ref x :: args)) (fun v => Q (some v)) E s) : wpAny M A (callSpecialIfBound? (.ref x) "__ne__" args) Q E s := by
  simp only [callSpecialIfBound?,
          bindSpecialIfBound?]
  refine wpAny_holding (wpAny_bind (wpAny_bind (wpAny_bind
          (I.type.here ((PySem.W.looks_findIn X hs).here ?_)))))
  refine wpAny_bind
          (wpAny_askSetting (wpAny_ite ?_))
  have fin : wpAny M A (call (.builtin "object.__ne__") ([.ref x] ++ args) >>= fun v => pure (some v)) Q E s := wpAny_bind (wpAny_mono h (fun v s' h' => wpAny_pure h') fun _ _ h' => h')
  split
  · exact wpAny_bind (wpAny_of_eq (F.cmp_object.ne.bind _) (wpAny_pure (by exact fin)))
  · exact wpAny_tryCatch (wpAny_bind (wpAny_of_eq (F.cmp_object.ne.bind _) (wpAny_pure (by exact fin))))
theorem entry_ne (X : K.In s.heap) (I : PySem.W.InstAt s.heap x ox C od) (hu : A.units < cLine) (hs : findIn K (.ref C) "__eq__" = some (some (.ref f))) (hf : isFn K (.ref f) = true) {Q : Fin → Shared → Prop}
    (h : wpAny (model prog w) A (call (.ref f) [.ref x, b]) (fun v s' => ∃ c, v = .bool c ∧ Q (.done (.ret (.bool (!c)))) s') E s) : wpAny (model prog w) A (Builtin.«object.__ne__» ⟨[.ref x, b], []⟩) Q E s := by
  delta Builtin.«object.__ne__»
  repeat
    first
    | with_reducible
        refine wpAny_cRoomFor hu ?_
    | refine wpAny_bind (m := callSpecialIfBound? (.ref x) "__eq__" [b])
        (ifBound_K X I hs hf (wpAny_mono h (fun v s' hv => ?_) fun _ _ z => z))
      obtain ⟨c, e, q⟩ := hv
      subst e
    | exact q
    | exact wpAny_pure q
    | refine wpAny_bind (m := truthy (.bool c))
        (wpAny_truthy_bool ?_)
    | wp_step
theorem call_objNe (X : K.In s.heap) (I : PySem.W.InstAt s.heap x ox C od) (hu : A.in1.units < cLine) (hm : PySem.W.mroIn K C (.type "object") = some true) (hs : findIn K (.ref C) "__eq__" = some (some (.ref f))) (hf : isFn K (.ref f) = true) {Q : Value → Shared → Prop}
    (h : wpAny (model prog w) A.in1 (call (.ref f) [.ref x, b]) (fun v s' => ∃ c, v = .bool c ∧ Q (.bool (!c)) s') E s) : wpAny (model prog w) A (call (.builtin "object.__ne__") [.ref x, b]) Q E s :=
  wpAny_call (codeAny_call_builtin F.cmp_object.ne.plain F.cmpEntry_ne (PySem.W.check_slot F.cmpKind_ne F.cmpSplit_ne (I.type.andThen (PySem.W.looks_mroIn X hm)) (F.cmpArgs_ne _ _) (entry_ne X I hu hs hf h)))
theorem cmp_neK {Q : Value → Shared → Prop} (hu : A.units + 1 < cLine) (X : K.In s.heap) (I : InstAt s.heap x ox C od) (hb : Looks (model prog w) s.heap (typeOf b) tb) (hn : notFirst K C tb = true)
    (hs : findIn K (.ref C) "__eq__" = some (some (.ref f))) (hf : isFn K (.ref f) = true) (hne : PySem.W.findIn K (.ref C) "__ne__" = some (some (.builtin "object.__ne__"))) (hm : PySem.W.mroIn K C (.type "object") = some true)
    (h : wpAny (model prog w) A.in1 (call (.ref f) [.ref x, b]) (fun v s' => ∃ c, v = .bool c ∧ Q (.bool (!c)) s') E s) : wpAny (model prog w) A (richCompare .NotEq (.ref x) b) Q E s := by
  have one : wpAny (model prog w) A (tryCompare (.ref x) (cmpInfo .NotEq).2.1 b) (fun r s' => ∃ v, r = some v ∧ Q v s') E s := by
    unfold tryCompare
    refine wpAny_bind (ifBound_objNe X I hne (call_objNe X I (show A.units + 1 < cLine from hu) hm hs hf (wpAny_mono h (fun v s' hv => ?_) fun _ _ e => e)))
    obtain ⟨c, e, hq⟩ := hv
    exact ⟨c, e, wpAny_pure ⟨_, rfl, hq⟩⟩
  unfold richCompare
  simp only [oneThing_ref]
  refine wpAny_holding (wpAny_bind (wpAny_cRoomFor (Nat.lt_of_succ_lt hu) ?_))
  refine wpAny_bind (I.type.here
          (wpAny_bind (hb.here ?_)))
  split
  · rename_i q
    have e : subIn K tb (.ref
            C) = some false := by
      rcases Bool.or_eq_true_iff.mp
              hn with e | e
      · rw [beq_iff_eq.mp
              e] at q; simp at q
      · exact beq_iff_eq.mp e
    refine wpAny_bind
            ((looks_subIn X e).here ?_)
    simp only [Bool.false_eq_true,
            if_false]
    refine wpAny_bind (wpAny_mono one (fun r s' z =>
            ?_) fun _ _ e => e)
    obtain ⟨v, rfl, hq⟩ := z
    exact wpAny_pure hq
  · refine wpAny_bind
          (wpAny_pure ?_)
    simp only [Bool.false_eq_true,
            if_false]
    refine wpAny_bind (wpAny_mono one (fun r s' z =>
            ?_) fun _ _ e => e)
    obtain ⟨v, rfl, hq⟩ := z
    exact wpAny_pure hq
/-- [..] != [..], all equal one by one: what the walk over both keeps is I -/
theorem ne_walk {R : Result → Shared → Prop} {p q : Addr} {m : Nat} {I : Nat → Shared → Prop} (W : GQ.ListI prog w A (fun e s' => R (.error e) s') p q m I) (fin : ∀ s, I m s → R (.ok (.ret (.bool false))) s) :
    ∀ (k j : Nat), j + k = m → ∀ s, I j s → wpAny (model prog w) A.in1 (Builtin.«list.__eq__.loop» ⟨[.ref p, .ref q, rawInt j, rawInt 3], []⟩) (GQ.FinOf prog w A R) (fun e s' => R (.error e) s') s
  | 0, j, hj, s, h => by
    obtain ⟨xs, ys, a, b, l1, l2, z1, z2, _⟩ := W j s h
    have e : j = m := hj
    have r := fin s (by rw [← e]; exact h)
    obtain ⟨hp, g,
            d, tk, os⟩ := s
    wp_walk using AutoSeq1.wpAny_loadPart' l1, AutoSeq1.wpAny_loadPart' l2
    have o1 : xs[(j : Int).toNat]? = none := Array.getElem?_eq_none (by show xs.size ≤ j; omega)
    have o2 : ys[(j : Int).toNat]? = none := Array.getElem?_eq_none (by show ys.size ≤ j; omega)
    rw [o1, o2]
    wp_walk using AutoSeq1.wpAny_loadPart' l1, AutoSeq1.wpAny_loadPart' l2
    have ez : (xs.size != ys.size) = false := by rw [z1, z2]; simp
    show R (.ok (.ret (.bool (xs.size != ys.size)))) _
    rw [ez]
    exact r
  | k + 1, j, hj, s, h => by
    obtain ⟨xs, ys, a, b, l1, l2, z1, z2, turn⟩ := W j s h
    have b1 : j < xs.size := by omega
    have b2 : j < ys.size := by omega
    have one := turn b1 b2
    obtain ⟨hp, g,
            d, tk, os⟩ := s
    wp_walk using AutoSeq1.wpAny_loadPart' l1, AutoSeq1.wpAny_loadPart' l2
    have o1 : xs[(j : Int).toNat]? = some xs[j] := Array.getElem?_eq_getElem b1
    have o2 : ys[(j : Int).toNat]? = some ys[j] := Array.getElem?_eq_getElem b2
    rw [o1, o2]
    refine wpAny_bind (wpAny_mono one (fun v s2 hv => ?_) fun _ _ z => z)
    have go := ne_walk W fin k (j + 1) (by omega) s2 hv.2
    have ev := hv.1
    subst ev
    obtain ⟨hp2, g2,
            d2, tk2, os2⟩ := s2
    wp_walk
    have ej : (j : Int) + 1 = ((j + 1 : Nat) : Int) := rfl
    rw [ej]
    refine ⟨plainId_quiet MeetsSeq3.plain_eq_loop _, codeAny_builtin MeetsSeq3.entry_eq_loop ?_⟩
    rw [Around.under_plainId MeetsSeq3.plain_eq_loop _]
    exact go
theorem list_ne {R : Result → Shared → Prop} {p q : Addr} {m : Nat} {I : Nat → Shared → Prop} (W : GQ.ListI prog w A (fun e s' => R (.error e) s') p q m I) (fin : ∀ s, I m s → R (.ok (.ret (.bool false))) s) {s : Shared} (h : I 0 s) :
    wpAny (model prog w) A.in1 (Builtin.«list.__ne__» ⟨[.ref p, .ref q], []⟩) (GQ.FinOf prog w A R) (fun e s' => R (.error e) s') s := by
  have go := ne_walk W fin m 0 (Nat.zero_add m) s h
  obtain ⟨xs, ys, a, b, l1, l2, z1, z2, _⟩ := W 0 s h
  obtain ⟨hp, g,
          d, tk, os⟩ := s
  have sub := AutoSeq1.sub_list_list
  have same : ¬ (xs.size != ys.size) = true := by rw [z1, z2]; simp
  wp_walk using AutoSeq1.wpAny_loadPart' l1, AutoSeq1.wpAny_loadPart' l2
  refine ⟨plainId_quiet MeetsSeq3.plain_eq_loop _, codeAny_builtin MeetsSeq3.entry_eq_loop ?_⟩
  rw [Around.under_plainId MeetsSeq3.plain_eq_loop _]
  exact go
theorem rc_list_ne {p q : Addr} {m : Nat} {Q : Value → Shared → Prop} (hu : A.units < cLine) {I : Nat → Shared → Prop} (W : GQ.ListI prog w A E p q m I) (fin : ∀ s, I m s → Q (.bool false) s) (h : I 0 s) : wpAny (model prog w) A (richCompare .NotEq (.ref p) (.ref q)) Q E s := by
  obtain ⟨xs, ys, a, b, l1, l2, _, _, _⟩ := W 0 s h
  have body := list_ne (R := wants (fun v s' => v ≠ .notImplemented ∧ Q v s') E) W (fun s' z => ⟨(fun e => nomatch e), fin s' z⟩) h
  exact wpAny_richCompare_same_room (op := .NotEq) ⟨_, l1, rfl⟩ ⟨_, l2, rfl⟩ PySem.F.slot_list_ne
    (GQ.call_here PySem.F.slot_list_ne ⟨_, l1, rfl⟩ PySem.F.entry_list_ne (PySem.F.args_list_ne_2 _ _) body) hu
open PySem.Calls Builtin in
theorem len_body {Q : Value → Shared → Prop} (X : K.In s.heap) (I : InstAt s.heap x ox C od) (hs : findIn K (.ref C) "__len__" = some (some (.ref f))) (hf : isFn K (.ref f) = true)
    (h : wpAny (model prog w) A (call (.ref f) [.ref x]) (PySem.W.LenBack Q) E s) : wpAny (model prog w) A (Builtin.«len» ⟨[.ref x], []⟩) (fun fin s' => ∃ v, fin = .done (.ret v) ∧ Q v s') E s := by
  unfold Builtin.«len»
  refine wpAny_bind (m := oneArg
          "len" _) (wpAny_pure ?_)
  refine wpAny_bind (m := callSpecial? (.ref x) (Str.ofString "__len__")) (special_fn X I hs (beq_iff_eq.mp hf) (wpAny_mono h (fun r s' hr => ?_) fun _ _ y => y))
  cases r
          <;> first | exact hr.elim | skip
  rename_i n u
  obtain ⟨⟨h0, h1⟩, hq⟩ := hr
  refine wpAny_bind
          (wpAny_holding (wpAny_pure ?_))
  refine wpAny_bind
          (wpAny_letGo ?_)
  show wpAny _ _ (if n <
          0 then _ else _) _ _ _
  rw [if_neg (by omega)]
  show wpAny _ _ (if n ≥ 2
          ^ 63 then _ else _) _ _ _
  rw [if_neg (by omega)]
  exact wpAny_bind (wpAny_mkInt (wpAny_pure ⟨_,
          rfl, hq⟩))
theorem truthy_len {Q : Bool → Shared → Prop} (X : K.In s.heap) (I : InstAt s.heap x ox C od) (hs : findIn K (.ref C) "__len__" = some (some (.ref f))) (hf : isFn K (.ref f) = true) (hbo : findIn K (.ref C) "__bool__" = some none)
    (h : wpAny (model prog w) A.in1 (call (.ref f) [.ref x]) (PySem.W.LenBack fun v s' => ∃ n t, v = .int n t ∧ Q (n != 0) s') E s) : wpAny (model prog w) A (truthy (.ref x)) Q E s := by
  have key : wpAny (model prog w) A (runValue (.builtin "len" ⟨[.ref x], []⟩)) (fun v s' => ∃ n t, v = .int n t ∧ Q (n != 0) s') E s := by
    refine wpAny_runValue
            (codeAny_builtin entry_len ?_)
    rw [Around.under_plainId
            plain_len _]
    exact wpAny_mono (len_body X I hs hf h) (fun fin s' h' => by obtain ⟨r, rfl, hq⟩ := h'; exact hq) fun _ _ e => e
  have hsp : ∀ {Q' : Option Value → Shared → Prop}, Q' (some (.ref f)) s → wpAny (model prog w) A (specialOf (.ref x) "__len__") Q' E s := fun q => by
    unfold specialOf
    exact wpAny_bind (I.type.here ((PySem.W.looks_findIn X hs).here q))
  unfold truthy
  first
    | refine wpAny_bind (DSub.special_no (name := Str.ofString "__bool__") X I hbo ?_)
    | refine wpAny_bind (wpAny_pure (wpAny_bind (DSub.special_no (name := Str.ofString "__bool__") X I hbo ?_)))
  first
    | refine wpAny_bind (hsp ?_)
    | refine wpAny_bind (wpAny_pure
            (wpAny_bind (hsp ?_)))
  first
    | exact wpAny_bind (wpAny_mono key (fun r s' h' => by obtain ⟨n, t, rfl, hq⟩ := h'; exact wpAny_pure hq) fun _ _ e => e)
    | exact wpAny_bind (wpAny_pure (wpAny_bind (wpAny_mono key (fun r s' h' => by obtain ⟨n, t, rfl, hq⟩ := h'; exact wpAny_pure hq) fun _ _ e => e)))
end
end MuK
namespace Mu
open PySem
open PySem.Spec
open PyProof.Rows
open L2
theorem room_in2 {k : Nat} {A : Around} (r : Room (k + 1) A) : Room k A.in1.in1 :=
  ⟨r.hd, by have := r.dp; show A.depth + 3 * k + 5 < _; omega, by have := r.un; show A.units + 1 + 1 + 16 * k + 200 < _; omega⟩
theorem own_at {w : Wd} {pg : Pg} {st : Sto} {m : Nat} {x : T} {c f : Nat} (h : ownF pg st m x = some (c, f)) : c ∈ pg.own ∧ ∃ fs ts cl, insOf st x = some (c, fs, ts) ∧ pg.cls c = some cl ∧ (m, f) ∈ cl.ms := by
  unfold ownF at h
  cases e : insOf st x with
  | none =>
          rw [e] at h; cases h
  | some q =>
    obtain ⟨c', fs, ts⟩ := q
    rw [e] at h
    have h : (if c' ∈ pg.own then (pg.cls c').bind fun cl => (lookM m cl.ms).map fun f => (c', f) else none) = some (c, f) := h
    by_cases ho : c' ∈ pg.own
    · rw [if_pos ho] at h
      cases e2 : pg.cls c' with
      | none => rw [e2] at h; cases h
      | some cl =>
        rw [e2] at h
        have h : (lookM m cl.ms).map (fun f => (c', f)) = some (c, f) := h
        cases e3 : lookM m cl.ms with
        | none => rw [e3] at h; cases h
        | some f' =>
          rw [e3] at h
          have h : (c', f') = (c, f) := Option.some.inj h
          injection h with h1 h2
          subst h1 h2
          exact ⟨ho, fs, ts, cl, rfl, e2, lookM_mem e3⟩
    · rw [if_neg ho] at h
      cases h
section
variable {w : Wd} {pg : Pg} {tb : Tab} {F : Fn} {X : Cx} {N : List Str} {sc own : Scope} {W : WX} {k : Nat}
/-- an own method runs, at a place within: it raises nothing -/
theorem run_own (tk : Takes X W) {A : Around} {pins : List (Addr × Obj)} {σ : L2.St} {H : Hp} {s : Shared} {Q : VK} {us : List Value} {vs : List V} {sp : Sp} {ad : Addr} {fd : FuncData} {ps : List Str} {j : Nat}
    (Fo : FnG X.prog X.w X.K X.mg X.base j ad fd ps sp) (hr : Room j A) (gu : A.guards = some []) (e0 : Env0 X.prog X.w X.K X.mg X.base A X.stack s H) (hb : Binds X.K fd ps []) (I : Inv X pins σ H s) (r : Vals vs us) (h : sp vs H Q (fun _ _ _ => False)) :
    wpAny (model X.prog X.w) A (call (.ref ad) us) (EP X pins σ Q) X.xe s := by
  have hl : us.length = ps.length := by rw [← r.length]; exact Fo.len _ _ _ _ h
  have hB := hb s us I.kIn (by rw [List.append_nil]; exact hl)
  rw [List.append_nil] at hB
  refine wpAny_call (codeAny_mono (Fo.run A X.stack s H ⟨us, []⟩ us vs Q _ hr gu e0 hB r h) fun res s' hq => ?_)
  cases res with
  | error u => exact tk u s' (XE.of_call I (fun _ _ _ z => z.elim) hq)
  | ok fl =>
    cases fl with
    | ret u => exact I.after hq
    | next => exact False.elim hq
    | brk => exact False.elim hq
    | cont => exact False.elim hq
/-- what an own method needs: the instance at hand, its def -/
theorem own_go (g : Gd w pg tb F X N sc own W k) {z : Z} {H : Hp} (S : StRel w z H) {m c f : Nat} {t : T} {x : V} (r1 : Rep w z.as z.hm t x) (h : ownF pg z.st m t = some (c, f)) {pins : List (Addr × Obj)} {σ : L2.St} {s : Shared} (I : Inv X pins σ H s) :
    ∃ a ad fd ps ox od, x = .ref a ∧ PySem.W.InstAt s.heap a ox (w.ad c) od ∧ Meth X.K (w.ad c) (tb.name m) ad ∧ FnG X.prog X.w X.K X.mg X.base k ad fd ps (spF w F f) ∧ Binds X.K fd ps [] ∧ c ∈ pg.own ∧ w.hot = false := by
  obtain ⟨ho, fs, ts, cl, hi, hc, hm⟩ := own_at (w := w) h
  obtain ⟨a, dx, kvs, e1, e2, _, _⟩ := insOf_rep S hi r1
  obtain ⟨ad, fd, ps, M, Fo, hb⟩ := (g.tab.cls c cl hc).ms m f hm
  rw [← g.hK] at M Fo hb
  rw [g.tab.nm] at M
  obtain ⟨mA, J, _⟩ := ins_get I.hok e2
  obtain ⟨od, J, _⟩ := J.look
  exact ⟨a, ad, fd, ps, _, _, e1, J, M, Fo, hb, ho, g.tab.cold_cls hc⟩
/-- the right side's class is seen: the left one is asked first -/
theorem other_ok (g : Gd w pg tb F X N sc own W k) {z : Z} {H : Hp} (S : StRel w z H) {c : Nat} {u : T} {y : V} {v : Value} (r2 : Rep w z.as z.hm u y) (h : otherOk pg z.st c u = true) {pins : List (Addr × Obj)} {σ : L2.St} {s : Shared} (I : Inv X pins σ H s) (ry : RelV y v) :
    ∃ tv, PySem.W.Looks (model X.prog X.w) s.heap (typeOf v) tv ∧ PySem.W.notFirst X.K (w.ad c) tv = true := by
  unfold otherOk at h
  cases ha : ckOf z.st u with
  | none => rw [ha] at h; cases h
  | some a =>
    rw [ha] at h
    have h : (match lookC a (.cls c) pg.kit with | some r => decide (a = .cls c) || !r | none => false) = true := h
    cases hk : lookC a (.cls c) pg.kit with
    | none =>
            rw [hk] at h; cases h
    | some r =>
      rw [hk] at h
      have h : (decide (a = .cls c) || !r) = true := h
      have hm := lookC_mem hk
      have hty : TyX X.K H y (a.val w) := by
        unfold ckOf at ha
        split at ha
        · rename_i m hm2
          cases ha
          exact tyX_of g.hK S hm2 r2
        · split at ha
          · rename_i c' fs us hi
            cases ha
            obtain ⟨ad, dx, kvs, e5, q, _, _⟩ := insOf_rep S hi r2
            obtain ⟨f1, f2, f3, f4, f5⟩ := g.tab.kit.cls c' _ r hm
            rw [e5, g.hK]
            exact .base (.ins q f1 f2 f3 f4 f5)
          · cases ha
      obtain ⟨P, Zk, hP, _⟩ := kit_of I ry hty
      refine ⟨_, Zk.ty _ _ I.kIn hP, ?_⟩
      unfold PySem.W.notFirst
      have hone := g.tab.kit.kit a (.cls c) r hm
      rw [← g.hK] at hone
      have hone : PySem.W.kitOne X.K (a.val w) (.ref (w.ad c)) = some r := hone
      rw [Bool.or_eq_true]
      by_cases e : (a.val w == Value.ref (w.ad c)) = true
      · exact .inl e
      · rw [Bool.or_eq_true, decide_eq_true_eq] at h
        rcases h with h | h
        · subst h
          exact absurd (beq_self_eq_true _) e
        · right
          unfold PySem.W.kitOne at hone
          rw [if_neg e] at hone
          have hone : (if ((PySem.W.clsIn X.K (w.ad c)).isSome && PySem.W.typeIn X.K (.ref (w.ad c)) == some (.type "type")) = true then PySem.W.subIn X.K (a.val w) (.ref (w.ad c)) else none) = some r := hone
          by_cases q : ((PySem.W.clsIn X.K (w.ad c)).isSome && PySem.W.typeIn X.K (.ref (w.ad c)) == some (.type "type")) = true
          · rw [if_pos q] at hone
            rw [hone]
            cases r
            · rfl
            · cases h
          · rw [if_neg q] at hone
            cases hone
theorem eqR_post {n : Bool} {z : Z} {H : Hp} {r : R T} {Q : Bool → Hp → Prop} {E : XK} (p : PostG rB w z H (eqR n r) Q E) : PostG (rT w) w z H r (fun v H' => ∃ b, v = .bl b ∧ Q (b != n) H') (fun _ _ _ => False) := by
  cases r with
  | ok t st =>
    cases t
    case bl b => exact fun z' H' v e g s r => ⟨b, r.bl_inv, p z' H' (b != n) e g s rfl⟩
    all_goals exact p.elim
  | exc c ts st => exact p.elim
  | bad => exact p.elim
theorem lenR_post {z : Z} {H : Hp} {r : R T} {Q : Int → Hp → Prop} {E : XK} (p : PostG (fun _ (a : Int) b => b = a) w z H (lenR r) Q E) : PostG (rT w) w z H r (fun v H' => ∃ n : Int, v = .int n ∧ (0 ≤ n ∧ n < 2 ^ 63) ∧ Q n H') (fun _ _ _ => False) := by
  cases r with
  | ok t st =>
    cases t
    case int n =>
      have p : PostG (fun _ (a : Int) b => b = a) w z H (if 0 ≤ n ∧ n < 2 ^ 63 then .ok n st else .bad) Q E := p
      by_cases hn : 0 ≤ n ∧ n < 2 ^ 63
      · rw [if_pos hn] at p
        exact fun z' H' v e g s r => ⟨n, r.int_inv, hn, p z' H' n e g s rfl⟩
      · rw [if_neg hn] at p
        exact p.elim
    all_goals exact p.elim
  | exc c ts st => exact p.elim
  | bad => exact p.elim
theorem op_eqO (g : Gd w pg tb F X N sc own W k) (hot : w.hot = false) (n : Bool) {m : Nat} (hm : tb.name m = Str.ofString "__eq__") :
    OpR X (compareOp (if n then .NotEq else .Eq)) (fun x y H Q => ∃ z t u E, StRel w z H ∧ Rep w z.as z.hm t x ∧ Rep w z.as z.hm u y ∧ PostG rB w z H (eqOR pg F n m t u z.st) (fun b H' => Q (.bl b) H') E) := by
  intro pins s σ H x y v u Q I rx ry ⟨z, t, t2, E, S, r1, r2, p⟩
  unfold eqOR at p
  cases ho : ownF pg z.st m t with
  | none => rw [ho] at p; exact p.elim
  | some q =>
    obtain ⟨c, f⟩ := q
    rw [ho] at p
    have p : PostG rB w z H (if otherOk pg z.st c t2 = true then eqR n (F f [t, t2] z.st) else .bad) (fun b H' => Q (.bl b) H') E := p
    by_cases hk : otherOk pg z.st c t2 = true
    · rw [if_pos hk] at p
      obtain ⟨a, ad, fd, ps, ox, od, e1, J, M, Fo, hb, hown, _⟩ := own_go g S r1 ho I
      obtain ⟨tv, hl, hn⟩ := other_ok g S r2 hk I ry
      obtain ⟨f1, f2, f3⟩ := g.tab.kit.own c hown
      rw [← g.hK] at f1 f2 f3
      subst e1
      cases (show v =
              Value.ref a from rx)
      have hs := M.at_
      rw [hm] at hs
      obtain ⟨mm, hF⟩ := I.fr
      have sp : spF w F f [.ref a, y] H (fun v H' => ∃ b, v = .bl b ∧ Q (.bl (b != n)) H') (fun _ _ _ => False) := ⟨z, [t, t2], S, Reps.cons r1 (Reps.cons r2 Reps.nil), eqR_post (Q := fun b H' => Q (.bl b) H') p⟩
      have rv : Vals [V.ref a, y] [Value.ref a, u] := .cons rfl (.cons ry .nil)
      cases n with
      | false =>
        show wpAny (model X.prog X.w) X.A (richCompare .Eq (.ref a) u) (EP X pins σ Q) X.xe s
        refine PySem.W.cmp_K (op := .Eq) (tb := tv) (room_of g hot).units0 hF I.ok.mod.kin J hl hn hs M.fn ?_
        refine wpAny_mono (run_own g.takes Fo (room_of g hot) g.gu I.env0 hb I rv sp) (fun r s' ⟨v', H', I', rz, b, e, q⟩ => ?_) fun _ _ x => x
        subst e
        cases (show r = Value.bool b from rz)
        refine (show EP X pins σ Q (.bool b) s' from ⟨.bl b, H', I', rfl, ?_⟩)
        rw [Bool.bne_false] at q
        exact q
      | true =>
        show wpAny (model X.prog X.w) X.A (richCompare .NotEq (.ref a) u) (EP X pins σ Q) X.xe s
        refine MuK.cmp_neK (tb := tv) (by have := (room_of g hot).units; omega) I.kIn J hl hn hs M.fn f2 f3 ?_
        refine wpAny_mono (run_own g.takes Fo (g.room hot).in1 g.gu I.env0.in1 hb I rv sp) (fun r s' ⟨v', H', I', rz, b, e, q⟩ => ?_) fun _ _ x => x
        subst e
        cases (show r = Value.bool b from rz)
        refine ⟨b, rfl, .bl (!b), H', I', rfl, ?_⟩
        rw [Bool.bne_true] at q
        exact q
    · rw [if_neg hk] at p
      exact p.elim
/-- the own == runs, at a place within -/
theorem rc_own (g : Gd w pg tb F X N sc own W k) {m c f : Nat} (hm : tb.name m = Str.ofString "__eq__") {A : Around} (hr : Room k A) (gu : A.guards = some []) {pins : List (Addr × Obj)} {σ : L2.St} {s : Shared} {H : Hp} (I : Inv X pins σ H s) (e0 : Env0 X.prog X.w X.K X.mg X.base A X.stack s H)
    {z : Z} {t u : T} {x y : V} {ux v : Value} (S : StRel w z H) (r1 : Rep w z.as z.hm t x) (r2 : Rep w z.as z.hm u y) (rx : RelV x ux) (ry : RelV y v) (ho : ownF pg z.st m t = some (c, f)) (hk : otherOk pg z.st c u = true) {Q : Bool → Hp → Prop}
    (p : PostG (rT w) w z H (F f [t, u] z.st) (fun v H' => ∃ b, v = .bl b ∧ Q b H') (fun _ _ _ => False)) : wpAny (model X.prog X.w) A (richCompare .Eq ux v) (fun r s' => ∃ b H', r = .bool b ∧ Inv X pins σ H' s' ∧ Q b H') X.xe s := by
  obtain ⟨a, ad, fd, ps, ox, od, e1, J, M, Fo, hb, hown, _⟩ := own_go g S r1 ho I
  obtain ⟨tv, hl, hn⟩ := other_ok g S r2 hk I ry
  subst e1
  cases (show ux = Value.ref a from rx)
  have hs := M.at_
  rw [hm] at hs
  obtain ⟨mm, hF⟩ := I.fr
  refine PySem.W.cmp_K (op := .Eq) (tb := tv) hr.units0 hF I.ok.mod.kin J hl hn hs M.fn ?_
  refine wpAny_mono (run_own g.takes Fo hr gu e0 hb I (us := [.ref a, v]) (vs := [.ref a, y]) (.cons rfl (.cons ry .nil)) ⟨z, [t, u], S, Reps.cons r1 (Reps.cons r2 Reps.nil), p⟩) (fun r s' ⟨v', H', I', rz, b, e, q⟩ => ?_) fun _ _ x => x
  subst e
  cases (show r = Value.bool b from rz)
  exact ⟨b, H', rfl, I', q⟩
theorem Sto.beq_eq : ∀ {s t : Sto}, Sto.beq s t = true → s = t
  | [], [], _ => rfl
  | none :: s, none :: t, h => by rw [Sto.beq_eq (s := s) (t := t) h]
  | some a :: s, some b :: t, h => by
    have h : (O.beq a b && Sto.beq s t) = true := h
    rw [Bool.and_eq_true] at h
    rw [O.beq_eq h.1, Sto.beq_eq h.2]
  | none :: _, some _ :: _, h => by cases h
  | some _ :: _, none :: _, h => by cases h
  | [], _ :: _, h => by cases h
  | none :: _, [], h => by cases h
  | some _ :: _, [], h => by cases h
theorem Sto.beq_refl : ∀ s : Sto, Sto.beq s s = true
  | [] => rfl
  | none :: s => Sto.beq_refl s
  | some a :: s => by
    show (O.beq a a && Sto.beq s s) = true
    rw [O.beq_refl, Sto.beq_refl s]
    rfl
theorem eqLs_at {pg : Pg} {F : Fn} {m : Nat} {st : Sto} : ∀ {xs ys : List T}, eqLs pg F m xs ys st = true → xs.length = ys.length ∧ ∀ (i : Nat) (x y : T), xs[i]? = some x → ys[i]? = some y →
    ∃ c f, ownF pg st m x = some (c, f) ∧ otherOk pg st c y = true ∧ (ownF pg st m y).isSome = true ∧ F f [x, y] st = .ok (.bl true) st
  | [], [], _ => ⟨rfl, fun i x y h => by simp at h⟩
  | [], _ :: _, h => by cases h
  | _ :: _, [], h => by cases h
  | a :: xs, b :: ys, h => by
    have h : ((match ownF pg st m a with
      | some (c, f) => otherOk pg st c b && (ownF pg st m b).isSome && (match F f [a, b] st with
        | .ok (.bl true) st' => Sto.beq st' st
        | _ => false)
      | none => false) && eqLs pg F m xs ys st) = true := h
    rw [Bool.and_eq_true] at h
    obtain ⟨h1, h2⟩ := h
    obtain ⟨l, q⟩ := eqLs_at h2
    refine ⟨by rw [List.length_cons, List.length_cons, l], fun i x y e1 e2 => ?_⟩
    cases i with
    | succ i => exact q i x y (by simpa using e1) (by simpa using e2)
    | zero =>
      obtain rfl : a = x := by simpa using e1
      obtain rfl : b = y := by simpa using e2
      cases ho : ownF pg st m a with
      | none => rw [ho] at h1; cases h1
      | some p =>
        obtain ⟨c, f⟩ := p
        rw [ho] at h1
        have h1 : (otherOk pg st c b && (ownF pg st m b).isSome && (match F f [a, b] st with
          | .ok (.bl true) st' => Sto.beq st' st
          | _ => false)) = true := h1
        rw [Bool.and_eq_true, Bool.and_eq_true] at h1
        obtain ⟨⟨k1, k2⟩, k3⟩ := h1
        refine ⟨c, f, rfl, k1, k2, ?_⟩
        split at k3
        · rename_i st' e
          rw [e, Sto.beq_eq k3]
        · cases k3
theorem op_eqL (g : Gd w pg tb F X N sc own W k) (hot : w.hot = false) (n : Bool) {m : Nat} (hm : tb.name m = Str.ofString "__eq__") :
    OpR X (compareOp (if n then .NotEq else .Eq)) (fun x y H Q => ∃ z t u E, StRel w z H ∧ Rep w z.as z.hm t x ∧ Rep w z.as z.hm u y ∧ PostG rB w z H (eqLR pg F n m t u z.st) (fun b H' => Q (.bl b) H') E) := by
  intro pins s σ H x y v u Q I rx ry ⟨z, t, t2, E, S, r1, r2, p⟩
  obtain ⟨xs, ys, rfl, rfl⟩ : ∃ xs ys, t = .lst xs ∧ t2 = .lst ys := by
    cases t
    case lst xs =>
      cases t2
      case lst ys => exact ⟨xs, ys, rfl, rfl⟩
      all_goals exact p.elim
    all_goals exact p.elim
  have p : PostG rB w z H (if eqLs pg F m xs ys z.st = true then .ok (!n) z.st else .bad) (fun b H' => Q (.bl b) H') E := p
  · by_cases hq : eqLs pg F m xs ys z.st = true
    · rw [if_pos hq] at p
      obtain ⟨hl, hat⟩ := eqLs_at hq
      obtain ⟨a, vs, rfl, q1, k1⟩ := r1.lst_inv
      obtain ⟨b, us, rfl, q2, k2⟩ := r2.lst_inv
      cases rx
      cases ry
      have lv := k1.length
      have lu := k2.length
      have W : GQ.ListI X.prog X.w X.A X.xe a b xs.length (fun _ s' => ∃ z' H', Inv X pins σ H' s' ∧ StRel w z' H' ∧ Go z H z' H' ∧ z'.st = z.st) := by
        intro i s' ⟨z', H', I', S', G', es⟩
        obtain ⟨_, its, c1, w1, e1⟩ := I'.hok a _ (S'.sub _ _ (G'.hm _ _ q1))
        obtain ⟨_, its2, c2, w2, e2⟩ := I'.hok b _ (S'.sub _ _ (G'.hm _ _ q2))
        have n1 : its.length = xs.length := by rw [← w1.length, ← lv]
        have n2 : its2.length = xs.length := by rw [← w2.length, ← lu, hl]
        refine ⟨its.toArray, its2.toArray, c1, c2, e1, e2, by simp [n1], by simp [n2], fun h1 h2 => ?_⟩
        have i1 : i < its.length := by simpa using h1
        have i2 : i < its2.length := by simpa using h2
        have g1 : its.toArray[i] = its[i] := by simp
        have g2 : its2.toArray[i] = its2[i] := by simp
        rw [g1, g2]
        obtain ⟨xv, hx, rxv⟩ := vals_getV w1 (List.getElem?_eq_getElem i1)
        obtain ⟨yv, hy, ryv⟩ := vals_getV w2 (List.getElem?_eq_getElem i2)
        have j1 : i < xs.length := by omega
        have j2 : i < ys.length := by omega
        obtain ⟨xv', hx', rx1⟩ := k1.get (List.getElem?_eq_getElem j1)
        obtain ⟨yv', hy', ry1⟩ := k2.get (List.getElem?_eq_getElem j2)
        rw [hx] at hx'
        rw [hy] at hy'
        cases hx'
        cases hy'
        obtain ⟨c, f, ho, hk, hoy, hF⟩ := hat i _ _ (List.getElem?_eq_getElem j1) (List.getElem?_eq_getElem j2)
        obtain ⟨⟨c', f'⟩, hoy⟩ := Option.isSome_iff_exists.mp hoy
        have rx2 := G'.rep rx1
        have ry2 := G'.rep ry1
        rw [← es] at ho hk hoy hF
        obtain ⟨ax, _, _, _, _, _, ex, _⟩ := own_go g S' rx2 ho I'
        obtain ⟨ay, _, _, _, _, _, ey, _⟩ := own_go g S' ry2 hoy I'
        have vx : its[i] = .ref ax := by rw [ex] at rxv; exact rxv
        have vy : its2[i] = .ref ay := by rw [ey] at ryv; exact ryv
        have call := rc_own g hm (g.room hot).in1 g.gu I' I'.env0.in1 S' rx2 ry2 rxv ryv ho hk (Q := fun b H2 => b = true ∧ ∃ z2, StRel w z2 H2 ∧ Go z' H' z2 H2 ∧ z2.st = z'.st) (by
          rw [hF]
          exact fun z2 H2 v e gg ss rr => ⟨true, rr.bl_inv, rfl, z2, ss, gg, e⟩)
        rw [vx, vy] at call ⊢
        by_cases hab : ax = ay
        · subst hab
          exact SeqAt.EqAt.same (A := X.A.in1) (s := s') (.ref ax) X.prog X.w X.xe _ ⟨rfl, z', H', I', S', G', es⟩
        · refine GQ.eqBool_refG hab (wpAny_mono call (fun r s2 ⟨b, H2, er, I2, eb, z2, S2, G2, e2⟩ => ?_) fun _ _ x => x)
          subst er
          subst eb
          exact ⟨true, rfl, rfl, z2, H2, I2, S2, G'.trans G2, e2.trans es⟩
      have fin : ∀ s', (∃ z' H', Inv X pins σ H' s' ∧ StRel w z' H' ∧ Go z H z' H' ∧ z'.st = z.st) → EP X pins σ Q (.bool (!n)) s' := fun s' ⟨z', H', I', S', G', es⟩ => ⟨.bl (!n), H', I', rfl, p z' H' (!n) es G' S' rfl⟩
      have st0 : ∃ z' H', Inv X pins σ H' s ∧ StRel w z' H' ∧ Go z H z' H' ∧ z'.st = z.st := ⟨z, H, I, S, Go.refl, rfl⟩
      cases n with
      | false =>
        show wpAny (model X.prog X.w) X.A (richCompare .Eq (.ref a) (.ref b)) (EP X pins σ Q) X.xe s
        exact GQ.rc_listG (N := xs.length) (room_of g hot).units0 _ W fin st0
      | true =>
        show wpAny (model X.prog X.w) X.A (richCompare .NotEq (.ref a) (.ref b)) (EP X pins σ Q) X.xe s
        exact MuK.rc_list_ne (room_of g hot).units0 W fin st0
    · rw [if_neg hq] at p
      exact p.elim
section
variable {a b : Mu.X} {ea eb : Expr} {pos p0 apos : Pos} {as : Xs}
theorem sx_eqO (g : Gd w pg tb F X N sc own W k) (hot : w.hot = false) (n : Bool) {m : Nat} (hm : tb.name m = Str.ofString "__eq__") (hs : noSet eb = true) (ha : PE X ea (tX w pg F a W)) (hb : PE X eb (tX w pg F b W)) : PE X (.Compare ea [if n then .NotEq else .Eq] [eb] pos) (tX w pg F (.eqO n m a b) W) :=
  PE.imp (pe_cmpR (op_eqO g hot n hm) ha hb (noSet_ok hs)) fun σ H Q ⟨z, env, S, En, p⟩ =>
    ⟨z, env, S, En, (PostG.bind (rel := rT w) (r := ev pg F a env z.st) p).imp fun x H1 ⟨z1, t, g1, s1, r1, p1⟩ =>
      ⟨z1, env, s1, En.go g1, (PostG.bind (rel := rT w) (r := ev pg F b env z1.st) p1).imp fun y H2 ⟨z2, t2, g2, s2, r2, p2⟩ => ⟨z2, t, t2, _, s2, g2.rep r1, r2,
        (PostG.bind (rel := rB) (r := eqOR pg F n m t t2 z2.st) p2).imp fun b H3 ⟨z3, b', g3, s3, r3, p3⟩ => by
          have r3 : b = b' := r3
          subst r3
          exact PostG.here (rel := rT w) p3 s3 (Rep.of_bl b)⟩⟩⟩
theorem st_eqO (g : Gd w pg tb F X N sc own W k) (hot : w.hot = false) (n : Bool) {m : Nat} (hm : tb.name m = Str.ofString "__eq__") (hs : noSet eb = true) (ha : PE X ea (tX w pg F a W)) (hb : PE X eb (tX w pg F b W)) : PT X (.Compare ea [if n then .NotEq else .Eq] [eb] pos) (tXT w pg F (.eqO n m a b) W) :=
  PT.imp (pt_cmpR (op_eqO g hot n hm) ha hb (noSet_ok hs)) fun σ H Q ⟨z, env, S, En, p⟩ =>
    ⟨z, env, S, En, (PostG.bind (rel := rT w) (r := ev pg F a env z.st) p).imp fun x H1 ⟨z1, t, g1, s1, r1, p1⟩ =>
      ⟨z1, env, s1, En.go g1, (PostG.bind (rel := rT w) (r := ev pg F b env z1.st) p1).imp fun y H2 ⟨z2, t2, g2, s2, r2, p2⟩ => ⟨z2, t, t2, _, s2, g2.rep r1, r2, p2.imp fun b H3 q => ⟨b, rfl, q⟩⟩⟩⟩
theorem sx_eqL (g : Gd w pg tb F X N sc own W k) (hot : w.hot = false) (n : Bool) {m : Nat} (hm : tb.name m = Str.ofString "__eq__") (hs : noSet eb = true) (ha : PE X ea (tX w pg F a W)) (hb : PE X eb (tX w pg F b W)) : PE X (.Compare ea [if n then .NotEq else .Eq] [eb] pos) (tX w pg F (.eqL n m a b) W) :=
  PE.imp (pe_cmpR (op_eqL g hot n hm) ha hb (noSet_ok hs)) fun σ H Q ⟨z, env, S, En, p⟩ =>
    ⟨z, env, S, En, (PostG.bind (rel := rT w) (r := ev pg F a env z.st) p).imp fun x H1 ⟨z1, t, g1, s1, r1, p1⟩ =>
      ⟨z1, env, s1, En.go g1, (PostG.bind (rel := rT w) (r := ev pg F b env z1.st) p1).imp fun y H2 ⟨z2, t2, g2, s2, r2, p2⟩ => ⟨z2, t, t2, _, s2, g2.rep r1, r2,
        (PostG.bind (rel := rB) (r := eqLR pg F n m t t2 z2.st) p2).imp fun b H3 ⟨z3, b', g3, s3, r3, p3⟩ => by
          have r3 : b = b' := r3
          subst r3
          exact PostG.here (rel := rT w) p3 s3 (Rep.of_bl b)⟩⟩⟩
theorem st_eqL (g : Gd w pg tb F X N sc own W k) (hot : w.hot = false) (n : Bool) {m : Nat} (hm : tb.name m = Str.ofString "__eq__") (hs : noSet eb = true) (ha : PE X ea (tX w pg F a W)) (hb : PE X eb (tX w pg F b W)) : PT X (.Compare ea [if n then .NotEq else .Eq] [eb] pos) (tXT w pg F (.eqL n m a b) W) :=
  PT.imp (pt_cmpR (op_eqL g hot n hm) ha hb (noSet_ok hs)) fun σ H Q ⟨z, env, S, En, p⟩ =>
    ⟨z, env, S, En, (PostG.bind (rel := rT w) (r := ev pg F a env z.st) p).imp fun x H1 ⟨z1, t, g1, s1, r1, p1⟩ =>
      ⟨z1, env, s1, En.go g1, (PostG.bind (rel := rT w) (r := ev pg F b env z1.st) p1).imp fun y H2 ⟨z2, t2, g2, s2, r2, p2⟩ => ⟨z2, t, t2, _, s2, g2.rep r1, r2, p2.imp fun b H3 q => ⟨b, rfl, q⟩⟩⟩⟩
theorem call_lenO (g : Gd w pg tb F X N sc own W k) (hot : w.hot = false) {m : Nat} (hm : tb.name m = Str.ofString "__len__") :
    CallR X (.builtin "len") (fun vs H Q => ∃ z t v E, vs = [v] ∧ StRel w z H ∧ Rep w z.as z.hm t v ∧ PostG (rT w) w z H (sp1OR pg F .len m t z.st) Q E) := by
  intro pins s σ H xs us Q I rr ⟨z, t, v, E, e, S, r1, p⟩
  subst e
  obtain ⟨u, rfl, ru⟩ := vals1 rr
  unfold sp1OR at p
  cases ho : ownF pg z.st m t with
  | none => rw [ho] at p; exact p.elim
  | some q =>
    obtain ⟨c, f⟩ := q
    rw [ho] at p
    have p : PostG (rT w) w z H ((lenR (F f [t] z.st)).bind fun n st => .ok (.int n) st) Q E := p
    have p2 := lenR_post (PostG.bind (rel := fun _ (a : Int) b => b = a) (rel2 := rT w) p)
    obtain ⟨a, ad, fd, ps, ox, od, e1, J, M, Fo, hb, hown, _⟩ := own_go g S r1 ho I
    subst e1
    cases (show u =
            Value.ref a from ru)
    have hs := M.at_
    rw [hm] at hs
    obtain ⟨mm, hF⟩ := I.fr
    refine PySem.W.len_K hF I.ok.mod.kin J hs M.fn ?_
    refine wpAny_mono (run_own g.takes Fo (g.room hot).in1 g.gu I.env0.in1 hb I (us := [.ref a]) (vs := [.ref a]) (.cons rfl .nil) ⟨z, [t], S, Reps.cons r1 Reps.nil, p2⟩) (fun r s' ⟨v', H', I', rz, n, e, hn, z3, n', g3, s3, r3, p3⟩ => ?_) fun _ _ x => x
    subst e
    have r3 : n = n' := r3
    subst r3
    obtain ⟨tk, e⟩ := (show ∃ tk, r = Value.int n tk from rz)
    subst e
    refine ⟨hn, .int n, H', I'.tok _, ⟨_, rfl⟩, PostG.here (rel := rT w) p3 s3 (Rep.of_int n)⟩
theorem call_strO (g : Gd w pg tb F X N sc own W k) (hot : w.hot = false) {m : Nat} (hm : tb.name m = Str.ofString "__str__") :
    CallR X (.type "str") (fun vs H Q => ∃ z t v E, vs = [v] ∧ StRel w z H ∧ Rep w z.as z.hm t v ∧ PostG (rT w) w z H (sp1OR pg F .str m t z.st) Q E) := by
  intro pins s σ H xs us Q I rr ⟨z, t, v, E, e, S, r1, p⟩
  subst e
  obtain ⟨u, rfl, ru⟩ := vals1 rr
  unfold sp1OR at p
  cases ho : ownF pg z.st m t with
  | none => rw [ho] at p; exact p.elim
  | some q =>
    obtain ⟨c, f⟩ := q
    rw [ho] at p
    have p : PostG (rT w) w z H (sp1R .str (F f [t] z.st)) Q E := p
    have p2 : PostG (rT w) w z H (F f [t] z.st) (fun v H' => ∃ cs : List Nat, v = .str ⟨cs.toArray⟩ ∧ Q v H') (fun _ _ _ => False) := by
      revert p
      cases F f [t] z.st with
      | ok t' st =>
        cases t'
        case str cs => exact fun p z' H' v e g s r => ⟨cs, r.str_inv, p z' H' v e g s r⟩
        all_goals exact fun p => p.elim
      | exc c ts st => exact fun p => p.elim
      | bad => exact fun p => p.elim
    obtain ⟨a, ad, fd, ps, ox, od, e1, J, M, Fo, hb, hown, _⟩ := own_go g S r1 ho I
    subst e1
    cases (show u =
            Value.ref a from ru)
    have hs := M.at_
    rw [hm] at hs
    have hr2 := room_in2 (g.room hot)
    refine PySem.W.kso_call hr2.units0 I.kIn J hs M.fn ?_
    refine wpAny_mono (run_own g.takes Fo hr2 g.gu I.env0.in1.in1 hb I (us := [.ref a]) (vs := [.ref a]) (.cons rfl .nil) ⟨z, [t], S, Reps.cons r1 Reps.nil, p2⟩) (fun r s' ⟨v', H', I', rz, cs, e, q⟩ => ?_) fun _ _ x => x
    subst e
    obtain ⟨tk, e⟩ := (show ∃ tk, r = Value.str ⟨cs.toArray⟩ tk from rz)
    subst e
    exact ⟨.str ⟨cs.toArray⟩, H', I', ⟨_, rfl⟩, q⟩
theorem sx_sp1 (g : Gd w pg tb F X N sc own W k) (hot : w.hot = false) (o : O1) {m : Nat} (h1 : glB sc (o1Name o) = true) (h2 : okName (o1Name o) = true) (h3 : o1Name o ∈ tb.free) (h4 : noStar ea = true) (hm : tb.name m = o1Meth o) (ha : PE X ea (tX w pg F a W)) :
    PE X (.Call (.Name (o1Name o) p0) [ea] [] pos) (tX w pg F (.sp1 o m a) W) := by
  obtain ⟨d1, _, d3⟩ := okName_ok h2
  have go : ∀ {σ : L2.St} {H : Hp} {Q : VK}, tX w pg F (.sp1 o m a) W σ H Q → tCons (tX w pg F a W) tNil σ H (fun vs H1 => ∃ z t v E, vs = [v] ∧ StRel w z H1 ∧ Rep w z.as z.hm t v ∧ PostG (rT w) w z H1 (sp1OR pg F o m t z.st) Q E) := fun {σ H Q} ⟨z, env, S, En, p⟩ =>
    ⟨z, env, S, En, (PostG.bind (rel := rT w) (r := ev pg F a env z.st) p).imp fun v H1 ⟨z1, t, g1, s1, r1, p1⟩ => ⟨z1, t, v, _, rfl, s1, r1, p1⟩⟩
  cases o with
  | len => exact PE.imp (pe_callB (call_lenO g hot hm) (glB_ok g.hsc h1) (g.tab.free _ h3) (show bootBuiltins "len" = some (.builtin "len") by decide +kernel) (pa_cons ha pa_nil (star_ok h4)) d3 d1 (star_ok h4) rfl) fun σ H Q q => go q
  | str => exact PE.imp (pe_callTy (call_strO g hot hm) (glB_ok g.hsc h1) (g.tab.free _ h3) (show bootBuiltins "str" = some (.type "str") by decide +kernel) (pa_cons ha pa_nil (star_ok h4)) d3 d1 (star_ok h4) rfl) fun σ H Q q => go q
theorem st_trO (g : Gd w pg tb F X N sc own W k) (hot : w.hot = false) {m : Nat} (h : plainT ea = true) (hm : tb.name m = Str.ofString "__len__") (ha : PE X ea (tX w pg F a W)) : PT X ea (tXT w pg F (.trO m a) W) := by
  have hr : TruR X (fun v H Q => ∃ z t E, StRel w z H ∧ Rep w z.as z.hm t v ∧ PostG rB w z H ((lenOR pg F m t z.st).bind fun n st => .ok (decide (n ≠ 0)) st) Q E) := by
    intro pins s σ H v u Q I ru ⟨z, t, E, S, r1, p⟩
    unfold lenOR at p
    cases ho : ownF pg z.st m t with
    | none => rw [ho] at p; exact p.elim
    | some q =>
      obtain ⟨c, f⟩ := q
      rw [ho] at p
      have p : PostG rB w z H ((lenR (F f [t] z.st)).bind fun n st => .ok (decide (n ≠ 0)) st) Q E := p
      have p2 := lenR_post (PostG.bind (rel := fun _ (a : Int) b => b = a) (rel2 := rB) p)
      obtain ⟨a, ad, fd, ps, ox, od, e1, J, M, Fo, hb, hown, _⟩ := own_go g S r1 ho I
      obtain ⟨f1, f2, f3⟩ := g.tab.kit.own c hown
      rw [← g.hK] at f1 f2 f3
      subst e1
      cases (show u =
              Value.ref a from ru)
      have hs := M.at_
      rw [hm] at hs
      refine MuK.truthy_len I.kIn J hs M.fn f1 ?_
      refine wpAny_mono (run_own g.takes Fo (g.room hot).in1 g.gu I.env0.in1 hb I (us := [.ref a]) (vs := [.ref a]) (.cons rfl .nil) ⟨z, [t], S, Reps.cons r1 Reps.nil, p2⟩) (fun r s' ⟨v', H', I', rz, n, e, hn, z3, n', g3, s3, r3, p3⟩ => ?_) fun _ _ x => x
      subst e
      have r3 : n = n' := r3
      subst r3
      obtain ⟨tk, e⟩ := (show ∃ tk, r = Value.int n tk from rz)
      subst e
      refine ⟨hn, n, _, rfl, ?_⟩
      have q := PostG.here (rel := rB) p3 s3 rfl
      refine (show TP X pins σ Q (n != 0) _ from ⟨H', I'.tok _, ?_⟩)
      have e : (n != 0) = decide (n ≠ 0) := by
        by_cases h0 : n = 0
        · subst h0; rfl
        · rw [decide_eq_true h0]; exact bne_iff_ne.mpr h0
      rw [e]
      exact q
  exact PT.imp (pt_truthR ha hr (plainT_ok h)) fun σ H Q ⟨z, env, S, En, p⟩ => ⟨z, env, S, En, (PostG.bind (rel := rT w) (r := ev pg F a env z.st) p).imp fun x H1 ⟨z1, t, g1, s1, r1, p1⟩ => ⟨z1, t, _, s1, r1, p1⟩⟩
/-! ### keywords of classes and of methods -/
theorem byPm_ok {n : Nat} {pm : List Nat} {ts us : List T} (h : byPm n pm ts = some us) : ts.length = n ∧ us = pm.map fun i => ts.getD i .non := by
  unfold byPm at h
  by_cases hc : (decide (ts.length = n) && pm.all (fun i => decide (i < ts.length))) = true
  · rw [if_pos hc] at h
    rw [Bool.and_eq_true,
            decide_eq_true_eq] at hc
    exact ⟨hc.1, (Option.some.inj h).symm⟩
  · rw [if_neg hc] at h
    cases h
theorem run_mkk (tk : Takes X W) {pins : List (Addr × Obj)} {σ : L2.St} {H : Hp} {s : Shared} {Q : VK} {ks : List Str} {pm : List Nat} {ws : List Value} {vs : List V} {sp : Sp} {C G : Addr} {fd : FuncData} {ps : List Str} {j : Nat} (M : Mk X.K C G)
    (Fo : FnG X.prog X.w X.K X.mg X.base j G fd ps sp) (hr : Room (j + 1) X.A) (gu : X.A.guards = some []) (hb : KBm X.K fd ps ks pm) (I : Inv X pins σ H s) (r : Vals vs ws) (hl : ws.length = ks.length)
    (h : ∀ x dx, H x = none → H dx = none → dx ≠ x → sp (.ref x :: pm.map fun i => vs.getD i .non) (upd (upd H dx (.own x)) x (.ins C dx [])) (fun v H2 => v = .non ∧ Q (.ref x) H2) (fun c d H' => W c d σ H')) :
    wpAny (model X.prog X.w) X.A (call (.ref C) [] (ks.zip ws)) (EP X pins σ Q) X.xe s := by
  have f0 : H s.heap.objs.size = none := I.hok.fresh (Nat.le_refl _)
  have f1 : H (s.heap.objs.size + 1) = none := I.hok.fresh (Nat.le_succ _)
  have hq := h _ _ f1 f0 (Nat.ne_of_lt (Nat.lt_succ_self s.heap.objs.size))
  have J := Inv.made (C := C) I
  have rr : Vals (V.ref (s.heap.objs.size + 1) :: pm.map fun i => vs.getD i .non) (Value.ref (s.heap.objs.size + 1) :: pm.map fun i => ws.getD i .none) := .cons rfl (vals_pm r pm)
  have hB := hb _ (Value.ref (s.heap.objs.size + 1)) ws J.kIn hl
  refine wpAny_call (make_map (f := G) I.kIn M.makes M.init (beq_iff_eq.mp M.fn) (codeAny_mono (Fo.run _ X.stack _ _ ⟨[Value.ref (s.heap.objs.size + 1)], ks.zip ws⟩ _ _ _ _ (hr.make C [] (ks.zip ws)) (guards_make gu) (J.env0.make C [] (ks.zip ws)) hB rr hq) fun res s' hq' => ?_))
  cases res with
  | error u => exact tk u s' (XE.of_call J (fun _ _ _ z => z) hq')
  | ok fl =>
    cases fl with
    | ret u =>
      obtain ⟨v, H', J3, rv, ev, q3⟩ := J.after hq'
      subst ev
      exact ⟨rv, ⟨V.ref (s.heap.objs.size + 1), H', J3, rfl, q3⟩⟩
    | next =>
            exact False.elim hq'
    | brk => exact False.elim hq'
    | cont =>
            exact False.elim hq'
theorem sx_mkk (g : Gd w pg tb F X N sc own W k) {c : Nat} {x : Str} {kws : List Keyword} {pm : List Nat} (h1 : tb.gl[c]? = some x) (h2 : glB sc x = true) (h3 : okName x = true) (hc : (pg.cls c).isSome = true) (h4 : (c, kwNames kws, pm) ∈ tb.kc) (hs : kws.all (fun k => k.arg.isSome) = true) (hL : as.len = kws.length)
    (hr : PK X kws (tXs w pg F as W)) : PE X (.Call (.Name x p0) [] kws pos) (tX w pg F (.mkk c pm as) W) := by
  obtain ⟨d1, _, _⟩ := okName_ok h3
  obtain ⟨cl, hcl⟩ := Option.isSome_iff_exists.mp hc
  obtain ⟨G, fd, ps, M, Fo, hb⟩ := g.tab.kc c cl _ pm hcl h4
  rw [← g.hK] at M Fo hb
  obtain ⟨a1, a2, a3⟩ := kw_all (env := X.env) (pos := pos) hs
  refine ⟨fun pins s σ H Q I ⟨z, env, S, En, p⟩ => ?_⟩
  refine wpAny_Call_Name_kw (ld_glob I (glB_ok g.hsc h2) (g.tab.gl c x h1) ?_ d1)
  refine PySem.W.callWith_KW0 (h₀ := X.base) I.ok.mod.kin M.kp a1 (thn (hr.run pos pins s σ H _ I ⟨z, env, S, En, PostG.bind (rel := rTs w) (r := evs pg F as env z.st) p⟩) fun ws s1 ⟨vs, H1, I1, r, z1, ts, g1, s1', r1, p1⟩ => ⟨I1.kIn, ?_⟩) (by rw [a2]; rfl)
  rw [kw_names]
  have p1 : PostG (rT w) w z1 H1 (match byPm as.len pm ts with | some us => instNew pg F c us z1.st | none => .bad) Q _ := p1
  cases hp : byPm as.len pm ts with
  | none => rw [hp] at p1; exact p1.elim
  | some us =>
    rw [hp] at p1
    obtain ⟨e1, e2⟩ := byPm_ok hp
    subst e2
    have hl : ws.length = (kwNames kws).length := by rw [a3, ← hL, ← e1, r1.length, r.length]
    exact run_mkk g.takes M Fo (g.room (g.tab.cold_cls hcl)) g.gu hb I1 r hl fun x' dx hx hd ne => inst_post hcl s1' (reps_pm r1 pm) p1 hx hd ne
theorem kw_form {env : PySem.Env} {kws : List Keyword} (hs : kws.all (fun k => k.arg.isSome) = true) (hl : kws.length < 20) : methodCallForm (([] : List Expr).length + kws.length) (backTo pos (starEach [] env)) (backToKw pos (keywordEach kws env)) = true := by
  obtain ⟨a1, a2, a3⟩ := kw_all (env := env) (pos := pos) hs
  unfold methodCallForm
  rw [a1]
  show (true && true && decide (([] : List Expr).length + kws.length + _ < 30)) = true
  have : ([] : List Expr).length + kws.length + (if (backToKw pos (keywordEach kws env)).isEmpty then 0 else 1) < 30 := by
    split <;> simp <;> omega
  rw [decide_eq_true this]
  rfl
theorem tree_omk {env : PySem.Env} {m : Str} {kws : List Keyword} (h : plainO ea = true) (hl : (apos.endLine == pos.line) = true) (hn : kws.length < 20) (hs : kws.all (fun k => k.arg.isSome) = true) :
    eval (.Call (.Attribute ea m apos) [] kws pos) env = (do
      let ov ← eval ea env
      standAt apos.atName
      let (f, first) ← holding [ov] (getMethod ov m (do return (← importBound ea env).getD true))
      callWith pos f first (backTo pos (starEach [] env)) (backToKw pos (keywordEach kws env))) := by
  refine mcall_of (plainO_ok h) fun ov => ?_
  unfold methodCall
          calleeOf methodCallPos
  rw [kw_form hs hn, hl]
  simp
theorem sx_omk (g : Gd w pg tb F X N sc own W k) {m f : Nat} {x : Str} {kws : List Keyword} {pm : List Nat} (hx : tb.name m = x) (h : plainO ea = true) (hl : (apos.endLine == pos.line) = true) (hn : kws.length < 20) (h4 : (f, kwNames kws, pm) ∈ tb.km) (hs : kws.all (fun k => k.arg.isSome) = true) (hL : as.len = kws.length)
    (ha : PE X ea (tX w pg F a W)) (hr : PK X kws (tXs w pg F as W)) : PE X (.Call (.Attribute ea x apos) [] kws pos) (tX w pg F (.omk m f pm a as) W) := by
  subst hx
  obtain ⟨a1, a2, a3⟩ := kw_all (env := X.env) (pos := pos) hs
  refine ⟨fun pins s σ H Q I ⟨z, env, S, En, p⟩ => ?_⟩
  refine PySem.W.methodCall_KW (pl := do return (← importBound ea X.env).getD true) (thn (ha.run pins s σ H _ I ⟨z, env, S, En, (PostG.bind (rel := rT w) (r := ev pg F a env z.st) p)⟩) fun u s1 ⟨y, H1, I1, ry, z1, t, g1, s1', r1, p1⟩ => ?_) (tree_omk h hl hn hs)
  unfold omkR at p1
  revert p1
  cases hi : insOf z1.st t with
  | none => exact fun p => p.elim
  | some q =>
    obtain ⟨c, fs, ts⟩ := q
    intro p1
    have p1 : PostG (rT w) w z1 H1 (match pg.cls c with
      | some cl => match lookM m cl.ms with
        | some f' => if f' = f ∧ m ∉ cl.fs ∧ (∀ g ∈ fs, g ∈ cl.fs) then (evs pg F as env z1.st).bind fun ts st => (match byPm as.len pm ts with
          | some us => F f (t :: us) st
          | none => .bad) else .bad
        | none => .bad
      | none => .bad) Q _ := p1
    revert p1
    cases hc : pg.cls c with
    | none => exact fun p => p.elim
    | some cl =>
      intro p1
      have p1 : PostG (rT w) w z1 H1 (match lookM m cl.ms with
        | some f' => if f' = f ∧ m ∉ cl.fs ∧ (∀ g ∈ fs, g ∈ cl.fs) then (evs pg F as env z1.st).bind fun ts st => (match byPm as.len pm ts with
          | some us => F f (t :: us) st
          | none => .bad) else .bad
        | none => .bad) Q _ := p1
      revert p1
      cases hm : lookM m cl.ms with
      | none => exact fun p => p.elim
      | some f' =>
        intro p1
        have p1 : PostG (rT w) w z1 H1 (if f' = f ∧ m ∉ cl.fs ∧ (∀ g ∈ fs, g ∈ cl.fs) then (evs pg F as env z1.st).bind fun ts st => (match byPm as.len pm ts with
          | some us => F f (t :: us) st
          | none => .bad) else .bad) Q _ := p1
        by_cases hf : f' = f ∧ m ∉ cl.fs ∧ (∀ g ∈ fs, g ∈ cl.fs)
        · rw [if_pos hf] at p1
          obtain ⟨hff, hf⟩ := hf
          subst hff
          have hmem := lookM_mem hm
          have co := g.tab.cls c cl hc
          obtain ⟨ad, fd, ps, M, Fo, hb⟩ := g.tab.km c cl m f' _ pm hc hmem h4
          rw [← g.hK] at M Fo hb
          rw [g.tab.nm] at M
          obtain ⟨a', dx, kvs, e1, e2, e3, e4⟩ := insOf_rep s1' hi r1
          have hlk : kvs.lookup (tb.name m) = none := by
            rw [← g.tab.nm]
            exact lookup_no e3 fun g' hg' e' => hf.1 (by
              have := co.inj g' (hf.2 g' hg') m (.inr (List.mem_map.mpr ⟨(m, f'), hmem, rfl⟩)) e'
              rw [← this]
              exact hf.2 g' hg')
          subst e1
          obtain rfl : u = Value.ref a' := ry
          refine getmeth_ok I1 e2 (by rw [g.hK]; exact co.cls) M hlk ?_
          refine PySem.W.callWith_KW0 (first := [.ref a']) (h₀ := X.base) I1.ok.mod.kin M.kp a1 (thn (hr.run pos pins s1 σ H1 _ I1 ⟨z1, env, s1', En.go g1, PostG.bind (rel := rTs w) (r := evs pg F as env z1.st) p1⟩) fun ws s3 ⟨vs, H3, I3, r, z3, ts3, g3, s3', r3, p3⟩ => ⟨I3.kIn, ?_⟩) (by rw [a2]; rfl)
          rw [kw_names]
          have p3 : PostG (rT w) w z3 H3 (match byPm as.len pm ts3 with | some us => F f' (t :: us) z3.st | none => .bad) Q _ := p3
          cases hp : byPm as.len pm ts3 with
          | none => rw [hp] at p3; exact p3.elim
          | some us =>
            rw [hp] at p3
            obtain ⟨e1, e2⟩ := byPm_ok hp
            subst e2
            have hl2 : ws.length = (kwNames kws).length := by rw [a3, ← hL, ← e1, r3.length, r.length]
            have sp : spF w F f' (.ref a' :: pm.map fun i => vs.getD i .non) H3 Q (fun c d H' => W c d σ H') := ⟨z3, _, s3', Reps.cons (g3.rep r1) (reps_pm r3 pm), p3⟩
            refine wpAny_call (codeAny_mono (Fo.run X.A X.stack s3 H3 ⟨[.ref a'], (kwNames kws).zip ws⟩ (.ref a' :: pm.map fun i => ws.getD i .none) _ Q _ (room_of g (g.tab.cold_cls hc)) g.gu I3.env0 (hb s3 (.ref a') ws I3.kIn hl2) (show Vals (V.ref a' :: pm.map fun i => vs.getD i .non) (Value.ref a' :: pm.map fun i => ws.getD i .none) from .cons rfl (vals_pm r pm)) sp) fun res s' hq => ?_)
            cases res with
            | error u => exact g.takes u s' (XE.of_call I3 (fun _ _ _ z => z) hq)
            | ok fl =>
              cases fl with
              | ret u => exact I3.after hq
              | next => exact False.elim hq
              | brk => exact False.elim hq
              | cont => exact False.elim hq
        · rw [if_neg hf] at p1
          exact p1.elim
/-! ### f-strings -/
theorem str_toList (x : Str) : (⟨x.cps.toList.toArray⟩ : Str) = x := by rw [Array.toArray_toList]
theorem strj_app (a b : List Nat) : (⟨a.toArray⟩ : Str) ++ ⟨b.toArray⟩ = ⟨(a ++ b).toArray⟩ := by
  show Str.append _ _ = _
  unfold Str.append
  simp
theorem sx_fm {fp : Pos} (ha : PE X ea (tX w pg F a W)) : PE X (.FormattedValue ea (-1) none fp) (tX w pg F (.fm a) W) :=
  PE.imp (pe_fmt ha) fun σ H Q ⟨z, env, S, En, p⟩ => ⟨z, env, S, En, (PostG.bind (rel := rT w) (r := ev pg F a env z.st) p).imp fun x H1 ⟨z1, t, g1, s1, r1, p1⟩ => by
    obtain ⟨tr, e, p2⟩ := post_is p1
    cases t
    case str y =>
      have e : (if y.length ≤ big then some (T.str y) else none) = some tr := e
      by_cases h : y.length ≤ big
      · rw [if_pos h] at e
        cases e
        exact .inl ⟨_, r1.str_inv, by rw [← big_line]; exact (show y.toArray.size ≤ big by simpa using h), PostG.here (rel := rT w) p2 s1 (Rep.of_str y)⟩
      · rw [if_neg h] at e
        cases e
    case int i =>
      have e : (if i.natAbs < 10 ^ 60 then some (T.str (itoa i)) else none) = some tr := e
      by_cases h : i.natAbs < 10 ^ 60
      · rw [if_pos h] at e
        cases e
        have q := PostG.here (rel := rT w) p2 s1 (Rep.of_str (itoa i))
        unfold itoa at q
        rw [str_toList] at q
        exact .inr ⟨i, r1.int_inv, Nat.lt_trans (log_small h) (by decide), q⟩
      · rw [if_neg h] at e
        cases e
    all_goals cases e⟩
/-- the parts: judged one by one -/
def JsOk (X : Cx) (w : Wd) (pg : Pg) (F : Fn) (W : WX) (c : Xs) (es : List Expr) : Prop := ∃ ts, PJ X es ts ∧ ∀ (acc : List Nat) (z : Z) (env : Env) (σ : L2.St) (H : Hp) (Q : VK), StRel w z H → EnvR w z env σ →
  PostG (rT w) w z H (evJ pg F c acc env z.st) Q (fun cls d H' => W cls d σ H') → tJs ts ⟨acc.toArray⟩ σ H fun out H1 => Q (.str out) H1
theorem js_nil : JsOk X w pg F W .nil [] := ⟨[], .nil, fun acc z env σ H Q S En p => PostG.here (rel := rT w) p S (Rep.of_str acc)⟩
theorem js_cons {es : List Expr} (ha : PE X ea (tX w pg F a W)) (hr : JsOk X w pg F W as es) : JsOk X w pg F W (.cons a as) (ea :: es) := by
  obtain ⟨ts, h1, h2⟩ := hr
  refine ⟨_ :: ts, .cons ha h1, fun acc z env σ H Q S En p => ?_⟩
  refine ⟨z, env, S, En, (PostG.bind (rel := rT w) (r := ev pg F a env z.st) p).imp fun x H1 ⟨z1, t, g1, s1, r1, p1⟩ => ?_⟩
  cases t
  case str y =>
    have p1 : PostG (rT w) w z1 H1 (if acc.length + y.length ≤ big then evJ pg F as (acc ++ y) env z1.st else .bad) Q _ := p1
    by_cases h : acc.length + y.length ≤ big
    · rw [if_pos h] at p1
      refine ⟨_, r1.str_inv, ?_, ?_⟩
      · rw [strj_app, ← big_line]
        show (acc ++ y).toArray.size ≤ big
        simpa using h
      · rw [strj_app]
        exact h2 (acc ++ y) z1 env σ H1 Q s1 (En.go g1) p1
    · rw [if_neg h] at p1
      exact p1.elim
  all_goals exact p1.elim
theorem sx_fs {v1 v2 : Expr} {r : List Expr} (h : JsOk X w pg F W as (v1 :: v2 :: r)) : PE X (.JoinedStr (v1 :: v2 :: r) pos) (tX w pg F (.fs as) W) := by
  obtain ⟨ts, h1, h2⟩ := h
  exact PE.imp (pe_joined h1) fun σ H Q ⟨z, env, S, En, p⟩ => h2 [] z env σ H Q S En p
end
end
end Mu
end
section
set_option Elab.async false
set_option linter.all false
set_option maxRecDepth 100000
set_option maxHeartbeats 4000010
/-! Mu, part 10: what is walked. -/
namespace Mu
open PySem
open PySem.Spec
open PyProof.Rows
open L2

section
variable {w : Wd} {z : Z} {ts us : List T} {J : It}
theorem walk_plain {vs : List V} {G : Hp → Prop} (wk : Walk J vs.length G (YAt vs)) (hG : ∀ H : Hp, (∀ a o, z.hm a = some o → H a = some o) → G H) (r : Reps w z.as z.hm ts vs) : WalkOf w z ts J :=
  ⟨G, YAt vs, by rw [r.length]; exact wk, hG, fun i H x H' z2 h1 h2 S2 ⟨e, q⟩ => by
    subst e
    obtain ⟨t, e1, e2⟩ := r.getV q
    exact ⟨z2, t, rfl, Go.refl, S2, e1, Rep.mono h2 h1 t x e2⟩⟩
theorem walk_pairs {xs ys : Nat → Option V} {G : Hp → Prop} (wk : Walk J ts.length G (YPair xs ys)) (hG : ∀ H : Hp, (∀ a o, z.hm a = some o → H a = some o) → G H)
    (h : ∀ i x y, xs i = some x → ys i = some y → ∃ tx ty, ts[i]? = some (.tup [tx, ty]) ∧ Rep w z.as z.hm tx x ∧ Rep w z.as z.hm ty y) : WalkOf w z ts J :=
  ⟨G, YPair xs ys, wk, hG, fun i H x H' z2 h1 h2 S2 ⟨T, x1, y1, e, hT, eH, q1, q2⟩ => by
    subst e
    subst eH
    obtain ⟨tx, ty, e1, e2, e3⟩ := h i x1 y1 q1 q2
    obtain ⟨s', g'⟩ := S2.laid (o := .tup [x1, y1]) hT
    refine ⟨⟨z2.as, upd z2.hm T (.tup [x1, y1]), z2.st⟩, _, rfl, g', s', e1, ?_⟩
    unfold Rep
    exact ⟨T, [x1, y1], rfl, SqT.of upd_same, Reps.cons (g'.rep (Rep.mono h2 h1 tx x1 e2)) (Reps.cons (g'.rep (Rep.mono h2 h1 ty y1 e3)) Reps.nil)⟩⟩
theorem walk_rng {lo : Int} {n : Nat} {hi : Int} (hn : n = (hi - lo).toNat) : WalkOf w z (rangeT lo hi) (Itr lo n) :=
  ⟨fun _ => True, fun i H x H' => i < n ∧ H' = H ∧ x = .int (lo + i), by
    have : (rangeT lo hi).length = n := by unfold rangeT; rw [List.length_map, List.length_range, hn]
    rw [this]
    exact (walk_range (lo := lo) (n := n)).mono (fun _ h => h) (fun i H x H' hi _ y => ⟨hi, y⟩), fun _ _ => trivial, fun i H x H' z2 h1 h2 S2 ⟨hi', e, q⟩ => by
    subst e
    subst q
    refine ⟨z2, .int (lo + (i : Int)), rfl, Go.refl, S2, ?_, Rep.of_int _⟩
    unfold rangeT
    rw [List.getElem?_map, List.getElem?_range (by rw [← hn]; exact hi')]
    rfl⟩
theorem walk_sgn {cs : List Nat} : WalkOf w z (cs.map fun c => .str [c]) (Its ⟨cs.toArray⟩) :=
  ⟨fun _ => True, fun i H v H' => H' = H ∧ ∃ c, cs[i]? = some c ∧ v = .str ⟨#[c]⟩, by
    have h := walk_str (z := ⟨cs.toArray⟩)
    have e : (cs.map fun c => T.str [c]).length = (⟨cs.toArray⟩ : Str).cps.size := by simp
    rw [e]
    exact h.mono (fun _ h => h) (fun i H x H' _ _ ⟨y1, c, y2, y3⟩ => ⟨y1, c, by simpa using y2, y3⟩), fun _ _ => trivial, fun i H x H' z2 h1 h2 S2 ⟨e, c, q1, q2⟩ => by
    subst e
    subst q2
    refine ⟨z2, .str [c], rfl, Go.refl, S2, ?_, Rep.of_str _⟩
    rw [List.getElem?_map, q1]
    rfl⟩
theorem enumT_len : ∀ (i : Nat) (ts : List T), (enumT i ts).length = ts.length
  | _, [] => rfl
  | i, _ :: ts => by simp [enumT, enumT_len (i + 1) ts]
theorem enumT_at : ∀ (k : Nat) (ts : List T) (i : Nat) (t : T), ts[i]? = some t → (enumT k ts)[i]? = some (.tup [.int ((k + i : Nat) : Int), t])
  | _, [], i, t, h => by simp at h
  | k, a :: ts, 0, t, h => by
    simp at h
    subst h
    rfl
  | k, a :: ts, i + 1, t, h => by
    have ih := enumT_at (k + 1) ts i t (by simpa using h)
    simp only [enumT, List.getElem?_cons_succ]
    rw [ih]
    congr 5
    omega
theorem zipT_len : ∀ (ts us : List T), (zipT ts us).length = min ts.length us.length
  | [], us => by simp [zipT]
  | _ :: _, [] => by simp [zipT]
  | _ :: ts, _ :: us => by simp [zipT, zipT_len ts us]
theorem zipT_at : ∀ (ts us : List T) (i : Nat) (t u : T), ts[i]? = some t → us[i]? = some u → (zipT ts us)[i]? = some (.tup [t, u])
  | [], _, _, _, _, h, _ =>
          by simp at h
  | _ :: _, [], _, _, _, _, h =>
          by simp at h
  | a :: ts, b :: us, 0, t, u, h1, h2 => by
    simp at h1 h2
    subst h1
    subst h2
    rfl
  | a :: ts, b :: us, i + 1, t, u, h1, h2 => by
    simpa [zipT] using zipT_at ts us i t u (by simpa using h1) (by simpa using h2)
/-- what is walked in a zip or an enumerate, as the library reads it -/
theorem src_rep {st : Sto} {t : T} {v : V} (h : itemsOf st t = some ts) (r : Rep w z.as z.hm t v) :
    ∃ src : Src, v = src.val ∧ (∀ H : Hp, (∀ a o, z.hm a = some o → H a = some o) → src.there w.K H) ∧ src.len = ts.length ∧ ∀ i x, src.get i = some x → ∃ tx, ts[i]? = some tx ∧ Rep w z.as z.hm tx x := by
  cases t
  case lst us =>
    cases h
    obtain ⟨a, vs, e, q, k⟩ := r.lst_inv
    exact ⟨.l a vs, e, fun H h => SqL.of (h _ _ q), k.length.symm, fun i x hx => k.getV hx⟩
  case tup us =>
    cases h
    obtain ⟨a, vs, e, q, k⟩ := r.tup_inv
    exact ⟨.t a vs, e, fun H h => sqT_mono h q, k.length.symm, fun i x hx => k.getV hx⟩
  case scr ns =>
    cases h
    unfold Rep at r
    obtain ⟨a, e, q⟩ := r
    exact ⟨.l a _, e, fun H h => sqL_mono h q, by show (ns.map V.int).length = _; simp, fun i x hx => (Reps.of_ints ns).getV hx⟩
  case str cs =>
    cases h
    cases r.str_inv
    refine ⟨.s ⟨cs.toArray⟩, rfl, fun _ _ => trivial, by show cs.toArray.size = _; simp, fun i x hx => ?_⟩
    have hx : ((cs.toArray)[i]?).map (fun c => V.str ⟨#[c]⟩) = some x := hx
    rw [List.getElem?_toArray] at hx
    cases e : cs[i]? with
    | none => rw [e] at hx; cases hx
    | some c =>
      rw [e] at hx
      cases hx
      exact ⟨.str [c], by rw [List.getElem?_map, e]; rfl, Rep.of_str [c]⟩
  all_goals cases h
theorem walk_enm {src : Src} (q : ∀ H : Hp, (∀ a o, z.hm a = some o → H a = some o) → src.there w.K H) (l : src.len = ts.length) (r : ∀ i x, src.get i = some x → ∃ tx, ts[i]? = some tx ∧ Rep w z.as z.hm tx x) : WalkOf w z (enumT 0 ts) (IteG w.K src) := by
  refine walk_pairs (xs := fun i => some (.int (i : Nat))) (ys := src.get) (G := fun H => src.there w.K H) ⟨fun i H hi g => ⟨g, by rw [l, ← enumT_len 0 ts]; exact hi⟩, fun H g => ⟨g, by rw [l, enumT_len]⟩, fun i H v H' _ _ y => ?_⟩ q fun i x y h1 h2 => ?_
  · obtain ⟨T, x, h1, h2, h3, h4⟩ := y
    exact ⟨T, .int (i : Nat), x, h1, h2, h3, rfl, h4⟩
  · obtain ⟨t, e1, e2⟩ := r i y h2
    refine ⟨.int (i : Nat), t, ?_, by rw [← Option.some.inj h1]; exact Rep.of_int _, e2⟩
    have := enumT_at 0 ts i t e1
    rw [Nat.zero_add] at this
    exact this
theorem walk_zp {a b : Src} (q : ∀ H : Hp, (∀ a o, z.hm a = some o → H a = some o) → a.there w.K H) (l : a.len = ts.length) (r : ∀ i x, a.get i = some x → ∃ tx, ts[i]? = some tx ∧ Rep w z.as z.hm tx x)
    (q' : ∀ H : Hp, (∀ a o, z.hm a = some o → H a = some o) → b.there w.K H) (l' : b.len = us.length) (r' : ∀ i x, b.get i = some x → ∃ tx, us[i]? = some tx ∧ Rep w z.as z.hm tx x) : WalkOf w z (zipT ts us) (ItzG w.K a b) := by
  refine walk_pairs (xs := a.get) (ys := b.get) (G := fun H => a.there w.K H ∧ b.there w.K H) ⟨fun i H hi g => ⟨g.1, g.2, by rw [l, l', ← zipT_len ts us]; exact hi⟩, fun H g => ⟨g.1, g.2, by rw [l, l', zipT_len]⟩, fun i H v H' _ _ y => ?_⟩ (fun H h => ⟨q H h, q' H h⟩) fun i x y h1 h2 => ?_
  · obtain ⟨T, x, u, h1, h2, h3, h4, h5⟩ := y
    exact ⟨T, x, u, h1, h2, h3, h4, h5⟩
  · obtain ⟨t, e1, e2⟩ := r i x h1
    obtain ⟨u, e3, e4⟩ := r' i y h2
    exact ⟨t, u, zipT_at ts us i t u e1 e3, e2, e4⟩
end
section
variable {w : Wd} {pg : Pg} {tb : Tab} {F : Fn} {X : Cx} {N : List Str} {sc own : Scope} {W : WX} {k : Nat}
variable {a b : Mu.X} {ea eb tg : Expr} {pos p0 : Pos}
theorem si_it (g : Gd w pg tb F X N sc own W k) (ha : PE X ea (tX w pg F a W)) : PI X tg ea (iX w pg F (.it a) W) := by
  refine ⟨fun pins s σ H R I ⟨z, env, S, En, p⟩ => ?_⟩
  refine thn (ha.run pins s σ H _ I ⟨z, env, S, En, PostG.bind (rel := rT w) (r := ev pg F a env z.st) p⟩) fun v s1 ⟨x, H1, I1, r1, z1, t, g1, S1, q1, p1⟩ => ?_
  have sub : ∀ a o, z1.hm a = some o → H1 a = some o := S1.sub
  have fin : ∀ {ts : List T} {J : It}, itemsOf z1.st t = some ts → WalkOf w z1 ts J → R J H1 := fun {ts J} e wk => by
    have p1 : PostG (rI w) w z1 H1 (match itemsOf z1.st t with | some ts => .ok ts z1.st | none => .bad) R _ := p1
    rw [e] at p1
    exact PostG.here (rel := rI w) p1 S1 wk
  cases t
  case tup ts =>
    obtain ⟨ad, vs, rfl, q, k1⟩ := q1.tup_inv
    cases r1
    have q' : SqT X.K H1 ad vs := by rw [g.hK]; exact sqT_mono sub q
    obtain ⟨its, rv, ht, hz⟩ := I1.tuple q'
    have q2 := fin rfl (walk_plain (walk_tup (K := w.K)) (fun H h => sqT_mono h q) k1)
    rw [← g.hK] at q2
    exact wpAny_pyIter_tuple (show s1.heap.IsTuple ad its.toArray from ht) (pi_one (tk := s1.toks) I1 _ (turn_tuple ad _) ⟨_, Heap.get?_push_size _ rfl, rfl, rfl⟩ q2)
  case lst ts =>
    obtain ⟨ad, vs, rfl, q, k1⟩ := q1.lst_inv
    cases r1
    obtain ⟨its, rv, ht, hz⟩ := I1.list (SqL.of (K := X.K) (sub _ _ q))
    have q2 := fin rfl (walk_plain (walk_list (K := w.K)) (fun H h => SqL.of (h _ _ q)) k1)
    rw [← g.hK] at q2
    exact wpAny_pyIter_list ht.isList (pi_one (tk := s1.toks) I1 _ (turn_list ad _) ⟨_, Heap.get?_push_size _ rfl, rfl, rfl⟩ q2)
  case scr ns =>
    unfold Rep at q1
    obtain ⟨ad, rfl, q⟩ := q1
    cases r1
    have q' : SqL X.K H1 ad (ns.map V.int) := by rw [g.hK]; exact sqL_mono sub q
    obtain ⟨its, rv, ht, hz⟩ := I1.list q'
    have q2 := fin rfl (walk_plain (walk_list (K := w.K)) (fun H h => sqL_mono h q) (Reps.of_ints ns))
    rw [← g.hK] at q2
    exact wpAny_pyIter_list ht.isList (pi_one (tk := s1.toks) I1 _ (turn_list ad _) ⟨_, Heap.get?_push_size _ rfl, rfl, rfl⟩ q2)
  case str cs =>
    cases q1.str_inv
    obtain ⟨t, rfl⟩ := r1
    have q2 := fin rfl walk_sgn
    cases ha' : (⟨cs.toArray⟩ : Str).cps.all (· < 128)
    · exact wpAny_pyIter_wide ha' (pi_one (tk := s1.toks) I1 _ (turn_str _ _ t "str_iterator" (.inr rfl)) ⟨_, Heap.get?_push_size _ rfl, rfl, rfl⟩ q2)
    · exact wpAny_pyIter_ascii ha' (pi_one (tk := s1.toks) I1 _ (turn_str _ _ t "str_ascii_iterator" (.inl rfl)) ⟨_, Heap.get?_push_size _ rfl, rfl, rfl⟩ q2)
  all_goals exact p1.elim
theorem si_rng1 (g : Gd w pg tb F X N sc own W k) (h2 : glB sc "range" = true) (h4 : ("range" : Str) ∈ tb.free) (hs : noStar ea = true) (ha : PE X ea (tX w pg F a W)) :
    PI X tg (.Call (.Name "range" p0) [ea] [] pos) (iX w pg F (.rng1 a) W) :=
  PI.imp (pi_range1 (glB_ok g.hsc h2) (g.tab.free _ h4) (pa_cons ha pa_nil (star_ok hs)) (star_ok hs)) fun σ H R ⟨z, env, S, En, p⟩ =>
    ⟨z, env, S, En, (PostG.bind (rel := rT w) (r := ev pg F a env z.st) p).imp fun x H1 ⟨z1, t, g1, s1, r1, p1⟩ => by
      cases t
      case int j =>
        have p1 : PostG (rI w) w z1 H1 (if -(2 ^ 62) ≤ j ∧ j < 2 ^ 62 then .ok (rangeT 0 j) z1.st else .bad) R _ := p1
        by_cases hb : -(2 ^ 62) ≤ j ∧ j < 2 ^ 62
        · rw [if_pos hb] at p1
          exact ⟨j, by rw [r1.int_inv], hb.1, hb.2, PostG.here (rel := rI w) p1 s1 (walk_rng (by rw [Int.sub_zero]))⟩
        · rw [if_neg hb] at p1
          exact p1.elim
      all_goals exact p1.elim⟩
theorem si_rng2 (g : Gd w pg tb F X N sc own W k) (h2 : glB sc "range" = true) (h4 : ("range" : Str) ∈ tb.free) (hs : noStar ea = true) (hs' : noStar eb = true) (ha : PE X ea (tX w pg F a W)) (hb : PE X eb (tX w pg F b W)) :
    PI X tg (.Call (.Name "range" p0) [ea, eb] [] pos) (iX w pg F (.rng2 a b) W) :=
  PI.imp (pi_range2 (glB_ok g.hsc h2) (g.tab.free _ h4) (pa_cons ha (pa_cons hb pa_nil (star_ok hs')) (star_ok hs)) (by rw [star_ok hs, star_ok hs']; rfl) (star_ok hs')) fun σ H R ⟨z, env, S, En, p⟩ =>
    ⟨z, env, S, En, (PostG.bind (rel := rT w) (r := ev pg F a env z.st) p).imp fun x H1 ⟨z1, t, g1, s1, r1, p1⟩ =>
      ⟨z1, env, s1, En.go g1, (PostG.bind (rel := rT w) (r := ev pg F b env z1.st) p1).imp fun y H2 ⟨z2, u, g2, s2, r2, p2⟩ => by
        cases t with
        | int lo =>
          cases u with
          | int hi =>
            have p2 : PostG (rI w) w z2 H2 (if -(2 ^ 62) ≤ lo ∧ lo < 2 ^ 62 ∧ -(2 ^ 62) ≤ hi ∧ hi < 2 ^ 62 then .ok (rangeT lo hi) z2.st else .bad) R _ := p2
            by_cases hbb : -(2 ^ 62) ≤ lo ∧ lo < 2 ^ 62 ∧ -(2 ^ 62) ≤ hi ∧ hi < 2 ^ 62
            · rw [if_pos hbb] at p2
              exact ⟨lo, hi, by rw [r1.int_inv, r2.int_inv], hbb, PostG.here (rel := rI w) p2 s2 (walk_rng rfl)⟩
            · rw [if_neg hbb] at p2
              exact p2.elim
          | _ => exact p2.elim
        | _ => exact p2.elim⟩⟩
theorem si_enum (g : Gd w pg tb F X N sc own W k) {elts : List Expr} {kk : Nat} {tpos : Pos} (h2 : glB sc "enumerate" = true) (h4 : ("enumerate" : Str) ∈ tb.free) (hs : noStar ea = true) (ha : PE X ea (tX w pg F a W)) :
    PI X (.Tuple elts kk tpos) (.Call (.Name "enumerate" p0) [ea] [] pos) (iX w pg F (.enum a) W) :=
  PI.imp (pi_enumG (glB_ok g.hsc h2) (g.tab.free _ h4) (pa_cons ha pa_nil (star_ok hs)) (star_ok hs)) fun σ H R ⟨z, env, S, En, p⟩ =>
    ⟨z, env, S, En, (PostG.bind (rel := rT w) (r := ev pg F a env z.st) p).imp fun x H1 ⟨z1, t, g1, s1, r1, p1⟩ => by
      revert p1
      cases hl : itemsOf z1.st t with
      | none => exact fun p => p.elim
      | some ts =>
        intro p1
        obtain ⟨src, e, q, l, k1⟩ := src_rep hl r1
        rw [g.hK]
        exact ⟨src, by rw [e], q _ s1.sub, PostG.here (rel := rI w) p1 s1 (walk_enm q l k1)⟩⟩
theorem si_zip (g : Gd w pg tb F X N sc own W k) {elts : List Expr} {kk : Nat} {tpos : Pos} (h2 : glB sc "zip" = true) (h4 : ("zip" : Str) ∈ tb.free) (hs : noStar ea = true) (hs' : noStar eb = true) (ha : PE X ea (tX w pg F a W)) (hb : PE X eb (tX w pg F b W)) :
    PI X (.Tuple elts kk tpos) (.Call (.Name "zip" p0) [ea, eb] [] pos) (iX w pg F (.zip a b) W) :=
  PI.imp (pi_zipG (glB_ok g.hsc h2) (g.tab.free _ h4) (pa_cons ha (pa_cons hb pa_nil (star_ok hs')) (star_ok hs)) (star_ok hs) (by rw [star_ok hs']; rfl)) fun σ H R ⟨z, env, S, En, p⟩ =>
    ⟨z, env, S, En, (PostG.bind (rel := rT w) (r := ev pg F a env z.st) p).imp fun x H1 ⟨z1, t, g1, s1, r1, p1⟩ =>
      ⟨z1, env, s1, En.go g1, (PostG.bind (rel := rT w) (r := ev pg F b env z1.st) p1).imp fun y H2 ⟨z2, u, g2, s2, r2, p2⟩ => by
        have r1 := g2.rep r1
        revert p2
        cases hz : zipOf z2.st t u with
        | none => exact fun p => p.elim
        | some ts =>
          intro p2
          rw [g.hK]
          unfold zipOf at hz
          split at hz
          · rename_i ts1 us1 e1 e2
            cases hz
            obtain ⟨c, e3, q, l, k1⟩ := src_rep e1 r1
            obtain ⟨d, e4, q', l', k2⟩ := src_rep e2 r2
            exact ⟨c, d, by rw [e3, e4], q _ s2.sub, q' _ s2.sub, PostG.here (rel := rI w) p2 s2 (walk_zp q l k1 q' l' k2)⟩
          · cases hz⟩⟩
end
end Mu
end
section
set_option Elab.async false
set_option linter.all false
set_option maxRecDepth 100000
set_option maxHeartbeats 4000010
/-! Mu, part 11: targets; comprehensions. -/
namespace Mu
open PySem
open PySem.Spec
open PyProof.Rows
open L2

/-! ### slots -/
theorem wipe_at (σ : L2.St) : ∀ (vs : List Nat) (j : Nat), (wipe σ vs)[j]? = if j ∈ vs ∧ j < σ.length then some none else σ[j]?
  | [], j => by simp [wipe]
  | v :: vs, j => by
    have ih := wipe_at σ vs j
    unfold wipe
    by_cases h : v = j
    · subst h
      by_cases hl : v < σ.length
      · rw [List.getElem?_set_self (by rw [wipe_length]; exact hl), if_pos ⟨List.mem_cons_self, hl⟩]
      · rw [if_neg (fun c => hl c.2), List.getElem?_eq_none (by rw [List.length_set, wipe_length]; omega), List.getElem?_eq_none (by omega)]
    · rw [List.getElem?_set_ne h, ih]
      have : (j ∈ v :: vs) ↔ j ∈ vs := by simp [List.mem_cons, show ¬ j = v from fun e => h e.symm]
      simp only [this]
theorem wipeE_at (σ : Env) : ∀ (vs : List Nat) (j : Nat), (wipeE σ vs)[j]? = if j ∈ vs ∧ j < σ.length then some none else σ[j]?
  | [], j => by simp [wipeE]
  | v :: vs, j => by
    have ih := wipeE_at σ vs j
    have hlen : (wipeE σ vs).length = σ.length := by
      clear ih
      induction vs with
      | nil => rfl
      | cons a vs ih => simp [wipeE, ih]
    unfold wipeE
    by_cases h : v = j
    · subst h
      by_cases hl : v < σ.length
      · rw [List.getElem?_set_self (by rw [hlen]; exact hl), if_pos ⟨List.mem_cons_self, hl⟩]
      · rw [if_neg (fun c => hl c.2), List.getElem?_eq_none (by rw [List.length_set, hlen]; omega), List.getElem?_eq_none (by omega)]
    · rw [List.getElem?_set_ne h, ih]
      have : (j ∈ v :: vs) ↔ j ∈ vs := by simp [List.mem_cons, show ¬ j = v from fun e => h e.symm]
      simp only [this]
theorem wipeE_length (σ : Env) : ∀ (vs : List Nat), (wipeE σ vs).length = σ.length
  | [] => rfl
  | v :: vs => by unfold wipeE; rw [List.length_set, wipeE_length σ vs]
theorem EnvR.wipe {w : Wd} {z : Z} {env : Env} {σ : L2.St} (h : EnvR w z env σ) (vs : List Nat) : EnvR w z (wipeE env vs) (L2.wipe σ vs) := by
  refine ⟨by rw [wipeE_length, wipe_length]; exact h.1, fun i t e => ?_⟩
  rw [wipeE_at] at e
  by_cases hc : i ∈ vs ∧ i < env.length
  · rw [if_pos hc] at e
    cases e
  · rw [if_neg hc] at e
    rw [wipe_at, if_neg (by rw [← h.1]; exact hc)]
    exact h.2 i t e
theorem EnvR.set {w : Wd} {z : Z} {env : Env} {σ : L2.St} (h : EnvR w z env σ) {i : Nat} {t : T} {v : V} (r : Rep w z.as z.hm t v) : EnvR w z (env.set i (some t)) (σ.set i (some v)) := by
  refine ⟨by rw [List.length_set, List.length_set]; exact h.1, fun j u e => ?_⟩
  by_cases hj : i = j
  · subst hj
    have hl : i < env.length := by
      have := (List.getElem?_eq_some_iff.mp e).1
      rwa [List.length_set] at this
    rw [List.getElem?_set_self hl] at e
    have e : some t = some u := Option.some.inj e
    cases e
    exact ⟨v, List.getElem?_set_self (by rw [← h.1]; exact hl), r⟩
  · rw [List.getElem?_set_ne hj] at e
    rw [List.getElem?_set_ne hj]
    exact h.2 j u e
def Same (vs : List Nat) (σ σ' : L2.St) : Prop := σ'.length = σ.length ∧ ∀ j, j ∉ vs → σ'[j]? = σ[j]?
theorem Same.wiped {vs own : List Nat} {σ σ' : L2.St} (h : Same vs (wipe σ own) σ') (hs : ∀ j ∈ vs, j ∈ own) : wipe σ' own = wipe σ own := by
  have hl : σ'.length = σ.length := by rw [h.1, wipe_length]
  apply List.ext_getElem?
  intro j
  rw [wipe_at, wipe_at, hl]
  by_cases hc : j ∈ own ∧ j < σ.length
  · rw [if_pos hc, if_pos hc]
  · rw [if_neg hc, if_neg hc]
    by_cases hj : j ∈ vs
    · have hlt : ¬ j < σ.length := fun z => hc ⟨hs j hj, z⟩
      rw [List.getElem?_eq_none (by omega), List.getElem?_eq_none (by omega)]
    · rw [h.2 j hj, wipe_at, if_neg hc]
/-- a target that takes a value apart -/
def gX (w : Wd) (gg : G) : TG := fun x σ H Q => ∃ z t env env', StRel w z H ∧ EnvR w z env σ ∧ Rep w z.as z.hm t x ∧ bindG gg t env = some env' ∧ ∀ σ', EnvR w z env' σ' → Same (gS gg) σ σ' → Q σ' H
theorem PG.imp {X : Cx} {e : Expr} {t t' : TG} (h : PG X e t) (i : ∀ x σ H Q, t' x σ H Q → t x σ H Q) : PG X e t' := ⟨fun pins s σ H v u Q I r q => h.run pins s σ H v u Q I r (i v σ H Q q)⟩
theorem asg_ok {e : Expr} {es : List Expr} {env : PySem.Env} (h : noStar e = true) : assignEach (e :: es) env = (false, assign e env) :: assignEach es env := by
  cases e <;> first | rfl | (simp [noStar] at h)
section
variable {w : Wd} {pg : Pg} {tb : Tab} {F : Fn} {X : Cx} {N : List Str} {sc own : Scope} {W : WX} {k : Nat}
theorem chkG_star {gg : G} {e : Expr} (h : chkG N own gg e = true) : noStar e = true := by
  cases e <;> first | rfl | (cases gg <;> simp [chkG] at h)
theorem loc_ok (g : Gd w pg tb F X N sc own W k) {x : Str} (h : locB own x = true) : Loc X.env.scope x ∧ (X.fn x = true ∨ X.env.scope.names.lookup x = some .local) := by
  unfold locB at h
  rw [g.hsc]
  split at h
  · rename_i e
    exact ⟨.inl (g.loc x e), .inr (g.loc x e)⟩
  · rename_i e
    exact ⟨.inr (g.cel x e).1, .inl (g.cel x e).2⟩
  · cases h
theorem sg (g : Gd w pg tb F X N sc own W k) (hh : w.hot = false) : ∀ (gg : G) (e : Expr), chkG N own gg e = true → PG X e (gX w gg)
  | .nm i, .Name x pos, h => by
    have h : (decide (N[i]? = some x) && locB own x) = true := h
    rw [Bool.and_eq_true,
            decide_eq_true_eq] at h
    obtain ⟨l1, l2⟩ := loc_ok g h.2
    refine PG.imp (pg_name (i := i) (by rw [g.hN]; exact g.nd) (by rw [g.hN]; exact h.1) l1 l2) fun v σ H Q ⟨z, t, env, env', S, En, r, hb, q⟩ => ?_
    have hb : (if i < env.length then some (env.set i (some t)) else none) = some env' := hb
    by_cases hl : i < env.length
    · rw [if_pos hl] at hb
      cases hb
      refine q _ (En.set r) ⟨by rw [List.length_set], fun j hj => ?_⟩
      exact List.getElem?_set_ne (fun e => hj (by rw [← e]; exact List.mem_singleton.mpr rfl))
    · rw [if_neg hl] at hb
      cases hb
  | .two a b, .Tuple [a', b'] kk pos, h => by
    have h : (chkG N own a a' && chkG N own b b') = true := h
    rw [Bool.and_eq_true] at h
    have na := chkG_star h.1
    have nb := chkG_star h.2
    refine PG.imp (pg_tup (n := 2) (g.calm hh) (pgs_cons (sg g hh a a' h.1) (pgs_cons (sg g hh b b' h.2) pgs_nil (by rw [asg_ok nb]; rfl)) (by rw [asg_ok na]; rfl)) (by rw [asg_ok na, asg_ok nb]; rfl) (by rw [asg_ok na, asg_ok nb]; rfl)) fun v σ H Q ⟨z, t, env, env', S, En, r, hb, q⟩ => ?_
    cases t with
    | tup ts =>
      match ts, r, hb with
      | [x, y], r, hb =>
        have hb : ((bindG a x env).bind fun e => bindG b y e) = some env' := hb
        obtain ⟨e1, h1, h2⟩ := Option.bind_eq_some_iff.mp hb
        obtain ⟨ad, vs, rfl, hq, rr⟩ := r.tup_inv
        obtain ⟨v1, v2, rfl, r1, r2⟩ := rr.two
        refine ⟨ad, [v1, v2], rfl, by rw [g.hK]; exact sqT_mono S.sub hq, rfl, v1, [v2], rfl, z, x, env, e1, S, En, r1, h1, fun σ1 En1 sm1 => ⟨v2, [], rfl, z, y, e1, env', S, En1, r2, h2, fun σ2 En2 sm2 => ⟨rfl, q σ2 En2 ⟨by rw [sm2.1, sm1.1], fun j hj => ?_⟩⟩⟩⟩
        have hj : j ∉ gS a ++ gS b := hj
        rw [List.mem_append, not_or] at hj
        rw [sm2.2 j hj.2, sm1.2 j hj.1]
      | [], _, hb => cases hb
      | [_], _, hb => cases hb
      | _ :: _ :: _ :: _, _, hb => cases hb
    | _ => cases hb
  | .three a b c, .Tuple [a', b', c'] kk pos, h => by
    have h : (chkG N own a a' && chkG N own b b' && chkG N own c c') = true := h
    simp only [Bool.and_eq_true]
            at h
    obtain ⟨⟨h1, h2⟩, h3⟩ := h
    have na := chkG_star h1
    have nb := chkG_star h2
    have nc := chkG_star h3
    refine PG.imp (pg_tup (n := 3) (g.calm hh) (pgs_cons (sg g hh a a' h1) (pgs_cons (sg g hh b b' h2) (pgs_cons (sg g hh c c' h3) pgs_nil (by rw [asg_ok nc]; rfl)) (by rw [asg_ok nb]; rfl)) (by rw [asg_ok na]; rfl)) (by rw [asg_ok na, asg_ok nb, asg_ok nc]; rfl) (by rw [asg_ok na, asg_ok nb, asg_ok nc]; rfl)) fun v σ H Q ⟨z, t, env, env', S, En, r, hb, q⟩ => ?_
    cases t with
    | tup ts =>
      match ts, r, hb with
      | [x, y, u], r, hb =>
        have hb : ((bindG a x env).bind fun e => (bindG b y e).bind fun e => bindG c u e) = some env' := hb
        obtain ⟨e1, k1, hb⟩ := Option.bind_eq_some_iff.mp hb
        obtain ⟨e2, k2, k3⟩ := Option.bind_eq_some_iff.mp hb
        obtain ⟨ad, vs, rfl, hq, rr⟩ := r.tup_inv
        obtain ⟨v1, r', rfl, r1, rr⟩ := rr.cons_inv
        obtain ⟨v2, v3, rfl, r2, r3⟩ := rr.two
        refine ⟨ad, [v1, v2, v3], rfl, by rw [g.hK]; exact sqT_mono S.sub hq, rfl, v1, [v2, v3], rfl, z, x, env, e1, S, En, r1, k1, fun σ1 En1 sm1 => ⟨v2, [v3], rfl, z, y, e1, e2, S, En1, r2, k2, fun σ2 En2 sm2 => ⟨v3, [], rfl, z, u, e2, env', S, En2, r3, k3, fun σ3 En3 sm3 => ⟨rfl, q σ3 En3 ⟨by rw [sm3.1, sm2.1, sm1.1], fun j hj => ?_⟩⟩⟩⟩⟩
        have hj : j ∉ gS a ++ (gS b ++ gS c) := hj
        simp only [List.mem_append, not_or] at hj
        rw [sm3.2 j hj.2.2, sm2.2 j hj.2.1, sm1.2 j hj.1]
      | [], _, hb => cases hb
      | [_], _, hb => cases hb
      | [_, _], _, hb => cases hb
      | _ :: _ :: _ :: _ :: _, _, hb => cases hb
    | _ => cases hb
  | .four a b c d, .Tuple [a', b', c', d'] kk pos, h => by
    have h : (chkG N own a a' && chkG N own b b' && chkG N own c c' && chkG N own d d') = true := h
    simp only [Bool.and_eq_true]
            at h
    obtain ⟨⟨⟨h1, h2⟩,
            h3⟩, h4⟩ := h
    have na := chkG_star h1
    have nb := chkG_star h2
    have nc := chkG_star h3
    have nd' := chkG_star h4
    refine PG.imp (pg_tup (n := 4) (g.calm hh) (pgs_cons (sg g hh a a' h1) (pgs_cons (sg g hh b b' h2) (pgs_cons (sg g hh c c' h3) (pgs_cons (sg g hh d d' h4) pgs_nil (by rw [asg_ok nd']; rfl)) (by rw [asg_ok nc]; rfl)) (by rw [asg_ok nb]; rfl)) (by rw [asg_ok na]; rfl)) (by rw [asg_ok na, asg_ok nb, asg_ok nc, asg_ok nd']; rfl) (by rw [asg_ok na, asg_ok nb, asg_ok nc, asg_ok nd']; rfl)) fun v σ H Q ⟨z, t, env, env', S, En, r, hb, q⟩ => ?_
    cases t with
    | tup ts =>
      match ts, r, hb with
      | [x, y, u, o], r, hb =>
        have hb : ((bindG a x env).bind fun e => (bindG b y e).bind fun e => (bindG c u e).bind fun e => bindG d o e) = some env' := hb
        obtain ⟨e1, k1, hb⟩ := Option.bind_eq_some_iff.mp hb
        obtain ⟨e2, k2, hb⟩ := Option.bind_eq_some_iff.mp hb
        obtain ⟨e3, k3, k4⟩ := Option.bind_eq_some_iff.mp hb
        obtain ⟨ad, vs, rfl, hq, rr⟩ := r.tup_inv
        obtain ⟨v1, r', rfl, r1, rr⟩ := rr.cons_inv
        obtain ⟨v2, r', rfl, r2, rr⟩ := rr.cons_inv
        obtain ⟨v3, v4, rfl, r3, r4⟩ := rr.two
        refine ⟨ad, [v1, v2, v3, v4], rfl, by rw [g.hK]; exact sqT_mono S.sub hq, rfl, v1, [v2, v3, v4], rfl, z, x, env, e1, S, En, r1, k1, fun σ1 En1 sm1 => ⟨v2, [v3, v4], rfl, z, y, e1, e2, S, En1, r2, k2, fun σ2 En2 sm2 => ⟨v3, [v4], rfl, z, u, e2, e3, S, En2, r3, k3, fun σ3 En3 sm3 =>
          ⟨v4, [], rfl, z, o, e3, env', S, En3, r4, k4, fun σ4 En4 sm4 => ⟨rfl, q σ4 En4 ⟨by rw [sm4.1, sm3.1, sm2.1, sm1.1], fun j hj => ?_⟩⟩⟩⟩⟩⟩
        have hj : j ∉ gS a ++ (gS b ++ (gS c ++ gS d)) := hj
        simp only [List.mem_append, not_or] at hj
        rw [sm4.2 j hj.2.2.2, sm3.2 j hj.2.2.1, sm2.2 j hj.2.1, sm1.2 j hj.1]
      | [], _, hb => cases hb
      | [_], _, hb => cases hb
      | [_, _], _, hb => cases hb
      | [_, _, _], _, hb => cases hb
      | _ :: _ :: _ :: _ :: _ :: _, _, hb => cases hb
    | _ => cases hb
  | .sub _ _, _, h => by simp [chkG] at h
  | .nm _, .Tuple _ _ _, h => by simp [chkG] at h
end
/-! ### an object beside the store -/
structure Bes (w : Wd) (z : Z) (H : Hp) (D : Addr) (ys : List T) (acc : List V) : Prop where
  st : StRel w z H
  hm : z.hm D = none
  as : ∀ n : Nat, z.as[n]? ≠ some D
  at_ : H D = some (.lst acc)
  rep : Reps w z.as z.hm ys acc
section
variable {w : Wd} {z z' : Z} {H H' : Hp} {D : Addr} {ys : List T} {acc : List V}
theorem StRel.out (s : StRel w z H) (hD : z.hm D = none) (nD : ∀ n : Nat, z.as[n]? ≠ some D) (o : HO) : StRel w z (upd H D o) where
  len := s.len
  nd := s.nd
  sub := fun a o' h => by rw [upd_ne (fun e => no_two h (by rw [e]; exact hD))]; exact s.sub a o' h
  trk := fun n a h => by
    obtain ⟨o', q⟩ := s.trk n a h
    exact ⟨o', by rw [upd_ne (fun e => nD n (by rw [← e]; exact h))]; exact q⟩
  tabs := s.tabs
  live := fun n ob h => by
    obtain ⟨a, ho, h1, h2, h3, h4⟩ := s.live n ob h
    exact ⟨a, ho, h1, h2, by rw [upd_ne (fun e => nD n (by rw [← e]; exact h1))]; exact h3, h4⟩
theorem Go.out (g : Go z H z' H') (hD : H D = none) (o : HO) : Go z H z' (upd H' D o) where
  pre := g.pre
  hm := g.hm
  new := g.new
  dead := g.dead
  there := fun a o' h => by
    obtain ⟨o2, q⟩ := g.there a o' h
    exact ⟨o2, by rw [upd_ne (ne_of_none h hD)]; exact q⟩
  kept := fun a o' h k => by rw [upd_ne (ne_of_none h hD)]; exact g.kept a o' h k
  old := g.old
theorem Bes.start (s : StRel w z H) (hD : H D = none) : Bes w z (upd H D (.lst [])) D [] [] where
  st := s.out (s.none_hm hD) (fun n e => by obtain ⟨o, q⟩ := s.trk n D e; exact no_two q hD) _
  hm := s.none_hm hD
  as := fun n e => by obtain ⟨o, q⟩ := s.trk n D e; exact no_two q hD
  at_ := upd_same
  rep := Reps.nil
theorem Bes.go (b : Bes w z H D ys acc) (g : Go z H z' H') (s' : StRel w z' H') : Bes w z' H' D ys acc where
  st := s'
  hm := by
    cases q : z'.hm D with
    | none => rfl
    | some o =>
      rcases g.old D o q b.hm with h | ⟨n, h⟩
      · exact no_two b.at_ h
      · exact (b.as n h).elim
  as := fun n e => by
    obtain ⟨l, h⟩ := g.pre
    by_cases hn : n < z.as.length
    · rw [h, List.getElem?_append_left hn] at e
      exact b.as n e
    · exact no_two b.at_ (g.new n D (by omega) e)
  at_ := g.kept D _ b.at_ fun n e => (b.as n e).elim
  rep := g.reps b.rep
theorem Bes.app (b : Bes w z H D ys acc) {t : T} {v : V} (r : Rep w z.as z.hm t v) : Bes w z (upd H D (.lst (acc ++ [v]))) D (ys ++ [t]) (acc ++ [v]) where
  st := b.st.out b.hm b.as _
  hm := b.hm
  as := b.as
  at_ := upd_same
  rep := b.rep.append (Reps.cons r Reps.nil)
/-- it becomes one of ours -/
theorem Bes.done {z0 : Z} {H0 : Hp} (b : Bes w z H D ys acc) (g : Go z0 H0 z H) (h0 : H0 D = none) {kk : Bool} {Q : VK} {E : XK} (p : PostG (rT w) w z0 H0 (mkO kk z.st (.lst ys)) Q E) : Q (.ref D) H := by
  cases kk with
  | false =>
    have p : PostG (rT w) w z0 H0 (.ok (.lst ys) z.st) Q E := p
    have mono : ∀ a o', z.hm a = some o' → upd z.hm D (.lst acc) a = some o' := fun a o' h => by rw [upd_ne (ne_of_none h b.hm)]; exact h
    have rr : Reps w z.as (upd z.hm D (.lst acc)) ys acc := Reps.mono (fun _ _ q => q) mono ys acc b.rep
    refine p ⟨z.as, upd z.hm D (.lst acc), z.st⟩ H (.ref D) rfl ⟨g.pre, fun a o h => mono a o (g.hm a o h), g.new, g.dead, g.there, g.kept, fun a o h n => ?_⟩ ⟨b.st.len, b.st.nd, fun a o h => ?_, b.st.trk, fun n ob h => ?_, b.st.tabs⟩ ?_
    · have h : upd z.hm D (.lst acc) a = some o := h
      by_cases e : a = D
      · exact .inl (by rw [e]; exact h0)
      · rw [upd_ne e] at h
        exact g.old a o h n
    · have h : upd z.hm D (.lst acc) a = some o := h
      by_cases e : a = D
      · subst e
        rw [upd_same] at h
        rw [← h]
        exact b.at_
      · rw [upd_ne e] at h
        exact b.st.sub a o h
    · obtain ⟨a, ho, h1, h2, h3, h4⟩ := b.st.live n ob h
      exact ⟨a, ho, h1, by show upd z.hm D _ a = none; rw [upd_ne (fun e => b.as n (by rw [← e]; exact h1))]; exact h2, h3, h4.mono (fun _ _ q => q) mono⟩
    · show Rep w z.as (upd z.hm D (.lst acc)) (.lst ys) (.ref D)
      unfold Rep
      exact ⟨D, acc, rfl, upd_same, rr⟩
  | true =>
    have p : PostG (rT w) w z0 H0 (.ok (.cell z.st.length) (z.st ++ [some (.lst ys)])) Q E := p
    obtain ⟨l, hl⟩ := g.pre
    refine p ⟨z.as ++ [D], z.hm, z.st ++ [some (.lst ys)]⟩ H (.ref D) rfl ⟨⟨l ++ [D], by show z.as ++ [D] = _; rw [hl, List.append_assoc]⟩, g.hm, fun n a h e => ?_, fun n h => get_appO (g.dead n h), g.there, g.kept, g.old⟩ ⟨?_, fun i j a e1 e2 => ?_, b.st.sub, fun n a e => ?_, fun n ob e => ?_, b.st.tabs_app (ob := .lst ys) rfl D⟩ ?_
    · have e : (z.as ++ [D])[n]? = some a := e
      rcases app_at e with e | ⟨_, q⟩
      · exact g.new n a h e
      · rw [q]; exact h0
    · show (z.as ++ [D]).length = (z.st ++ [some (O.lst ys)]).length
      rw [List.length_append, List.length_append, b.st.len]
      rfl
    · have e1 : (z.as ++ [D])[i]? = some a := e1
      have e2 : (z.as ++ [D])[j]? = some a := e2
      rcases app_at e1 with e1 | ⟨h1, q1⟩ <;> rcases app_at e2 with e2 | ⟨h2, q2⟩
      · exact b.st.nd i j a e1 e2
      · exact (b.as i (by rw [← q2]; exact e1)).elim
      · exact (b.as j (by rw [← q1]; exact e2)).elim
      · rw [h1, h2]
    · have e : (z.as ++ [D])[n]? = some a := e
      rcases app_at e with e | ⟨_, q⟩
      · exact b.st.trk n a e
      · exact ⟨_, by rw [q]; exact b.at_⟩
    · have e : (z.st ++ [some (.lst ys)])[n]? = some (some ob) := e
      rcases app_at e with e | ⟨h1, q⟩
      · obtain ⟨a, ho, h1, h2, h3, h4⟩ := b.st.live n ob e
        exact ⟨a, ho, get_app h1, h2, h3, h4.mono (fun _ _ q => get_app q) fun _ _ q => q⟩
      · cases q
        exact ⟨D, HO.lst acc, by rw [h1, ← b.st.len]; exact app_end z.as D, b.hm, b.at_, acc, rfl, Reps.mono (fun _ _ q => get_app q) (fun _ _ q => q) ys acc b.rep⟩
    · show Rep w (z.as ++ [D]) z.hm (.cell z.st.length) (.ref D)
      unfold Rep
      exact ⟨D, by rw [← b.st.len]; exact app_end z.as D, rfl⟩
end
/-! ### comprehensions -/
abbrev Wno : WX := fun _ _ _ _ => False
section
variable {w : Wd} {pg : Pg} {tb : Tab} {F : Fn} {X : Cx} {N : List Str} {sc own : Scope} {W : WX} {k : Nat}
def tXA (w : Wd) (pg : Pg) (F : Fn) (c : Xs) (W : WX) : TT := fun σ H Q => ∃ z env, StRel w z H ∧ EnvR w z env σ ∧ PostG rB w z H (evA pg F c env z.st) Q (fun cls d H' => W cls d σ H')
theorem PTs.imp {e : List Expr} {t t' : TT} (h : PTs X e t) (i : ∀ σ H Q, t' σ H Q → t σ H Q) : PTs X e t' := ⟨fun pins s σ H Q I q => h.run pins s σ H Q I (i σ H Q q)⟩
theorem sa_nil : PTs X [] (tXA w pg F .nil W) := PTs.imp pts_nil fun σ H Q ⟨z, env, S, En, p⟩ => PostG.here (rel := rB) p S rfl
theorem sa_one {a : Mu.X} {e : Expr} (h : PT X e (tXT w pg F a W)) : PTs X [e] (tXA w pg F (.cons a .nil) W) := PTs.imp (pts_one h) fun σ H Q ⟨z, env, S, En, p⟩ => ⟨z, env, S, En, p⟩
theorem gd_blk (g : Gd w pg tb F X N sc own W k) (hh : w.hot = false) (s : Shared) (H : Hp) (scope : Scope) (cl : List (Str × Addr)) (C : Addr) (fp : List Addr) :
    Gd w pg tb F (X.blk s H scope (compEnvC scope cl C X.env) fp) N (relS scope sc) scope Wno k where
  hK := g.hK
  hN := g.hN
  hsc := by rw [← g.hsc]; rfl
  loc := fun x h => lookup_relS_keep (by decide) h
  cel := fun x h => ⟨lookup_relS_keep (by decide) h, by show (scope.names.lookup x == some .cell) = true; rw [h]; rfl⟩
  nd := g.nd
  calm := g.calm
  room := g.room
  un := g.un
  er := fun a d c e => by rw [g.tab.er0 hh] at e; cases e
  gu := g.gu
  takes := fun u s' ⟨_, _, _, _, _, _, _, _, _, _, _, _, _, _, _, _, z⟩ => z.elim
  tab := g.tab
  lam := g.lam
theorem drop_at {α : Type} {l : List α} {i : Nat} {x : α} (h : l[i]? = some x) : l.drop i = x :: l.drop (i + 1) := by
  obtain ⟨hi,
          e⟩ := List.getElem?_eq_some_iff.mp h
  rw [List.drop_eq_getElem_cons hi, e]
theorem comp_lc (g : Gd w pg tb F X N sc own W k) {kk : Bool} {e it : Mu.X} {gg : G} {own' : List Nat} {cs : Xs} {ownL : List (Str × Nat)} (ho : ownL.map (·.2) = own') (hsub : ∀ j ∈ gS gg, j ∈ own')
    {σ : L2.St} {H : Hp} {Q : VK} (q : tX w pg F (.comp kk e gg it own' cs) W σ H Q) : tLc (iX w pg F it W) (gX w gg) (tXA w pg F cs Wno) (tX w pg F e Wno) (ownL.map (·.2)) σ H Q := by
  obtain ⟨z, env, S, En, p⟩ := q
  refine ⟨z, env, S, En, (PostG.bind (rel := rI w) (r := evI pg F it env z.st) p).imp fun J H1 ⟨z1, ts, g1, s1, wk, p1⟩ D hD => ?_⟩
  rw [ho]
  have p1 : PostG (rT w) w z1 H1 (if ts.length ≤ 1000000 then (match compGo gg own' env (fun env st => evA pg F cs env st) (fun env st => ev pg F e env st) ts z1.st with
    | .ok ys st => mkO kk st (.lst ys)
    | _ => .bad) else .bad) Q _ := p1
  by_cases hlen : ts.length ≤ 1000000
  · rw [if_pos hlen] at p1
    revert p1
    generalize hr : compGo gg own' env (fun env st => evA pg F cs env st) (fun env st => ev pg F e env st) ts z1.st = r
    intro p1
    cases r with
    | exc _ _ _ => exact p1.elim
    | bad => exact p1.elim
    | ok ys stF =>
      have p1 : PostG (rT w) w z1 H1 (mkO kk stF (.lst ys)) Q _ := p1
      obtain ⟨G0, Y, wk, hGG, yld⟩ := wk
      refine lc_it wk (Pv := fun i Hc => ∃ st pre rest, compGo gg own' env (fun env st => evA pg F cs env st) (fun env st => ev pg F e env st) (ts.drop i) st = .ok rest stF ∧ pre ++ rest = ys ∧ pre.length ≤ i ∧ ∃ z' acc, z'.st = st ∧ Go z1 H1 z' Hc ∧ Bes w z' Hc D pre acc) ?_ ?_ ?_ ?_
      · exact ⟨z1.st, [], ys, hr, rfl, Nat.le_refl _, z1, [], rfl, Go.refl.out hD _, Bes.start s1 hD⟩
      · rintro i Hc hi ⟨st, pre, rest, _, _, _, z', acc, _, g', b⟩
        exact hGG Hc fun a o h => b.st.sub a o (g'.hm a o h)
      · rintro i x Hc H' hi ⟨st, pre, rest, hc, hp, hl, z', acc, est, g', b⟩ y
        obtain ⟨z3, t, e3, g3, S3, ht, rt⟩ := yld i Hc x H' z' g'.hm (fun n a h => g'.at h) b.st y
        have b3 := b.go g3 S3
        rw [drop_at ht] at hc
        have hc : (match bindG gg t (wipeE env own') with
          | none => R.bad
          | some e1 => match evA pg F cs e1 st with
            | .ok true st1 => match ev pg F e e1 st1 with
              | .ok y st2 => match compGo gg own' env (fun env st => evA pg F cs env st) (fun env st => ev pg F e env st) (ts.drop (i + 1)) st2 with
                | .ok ys st3 => .ok (y :: ys) st3
                | _ => .bad
              | _ => .bad
            | .ok false st1 => compGo gg own' env (fun env st => evA pg F cs env st) (fun env st => ev pg F e env st) (ts.drop (i + 1)) st1
            | _ => .bad) = .ok rest stF := hc
        cases hb : bindG gg t (wipeE env own') with
        | none => rw [hb] at hc; cases hc
        | some e1 =>
          rw [hb] at hc
          have E3 : EnvR w z3 (wipeE env own') (wipe σ own') := ((En.go g1).go (g'.trans g3)).wipe own'
          refine ⟨z3, t, wipeE env own', e1, S3, E3, rt, hb, fun σ2 En2 sm => ⟨Same.wiped sm hsub, z3, e1, S3, En2, ?_⟩⟩
          rw [e3, est]
          have hc : (match evA pg F cs e1 st with
            | .ok true st1 => match ev pg F e e1 st1 with
              | .ok y st2 => match compGo gg own' env (fun env st => evA pg F cs env st) (fun env st => ev pg F e env st) (ts.drop (i + 1)) st2 with
                | .ok ys st3 => R.ok (y :: ys) st3
                | _ => .bad
              | _ => .bad
            | .ok false st1 => compGo gg own' env (fun env st => evA pg F cs env st) (fun env st => ev pg F e env st) (ts.drop (i + 1)) st1
            | _ => .bad) = .ok rest stF := hc
          revert hc
          generalize hcond : evA pg F cs e1 st = rc
          intro hc
          cases rc with
          | exc _ _ _ => cases hc
          | bad => cases hc
          | ok bb st1 =>
            intro z4 H4 b' e4 g4 S4 r4
            have r4 : b' = bb := r4
            subst r4
            have b4 := b3.go g4 S4
            cases b' with
            | false =>
              rw [if_neg
                      Bool.false_ne_true]
              exact ⟨st1, pre, rest, hc, hp, by omega, z4, acc, e4, (g'.trans g3).trans g4, b4⟩
            | true =>
              rw [if_pos rfl]
              refine ⟨z4, e1, S4, En2.go g4, ?_⟩
              rw [e4]
              have hc : (match ev pg F e e1 st1 with
                | .ok y st2 => match compGo gg own' env (fun env st => evA pg F cs env st) (fun env st => ev pg F e env st) (ts.drop (i + 1)) st2 with
                  | .ok ys st3 => R.ok (y :: ys) st3
                  | _ => .bad
                | _ => .bad) = .ok rest stF := hc
              revert hc
              generalize hel : ev pg F e e1 st1 = re
              intro hc
              cases re with
              | exc _ _ _ => cases hc
              | bad => cases hc
              | ok yt st2 =>
                intro z5 H5 yv e5 g5 S5 r5
                have b5 := b4.go g5 S5
                have hc : (match compGo gg own' env (fun env st => evA pg F cs env st) (fun env st => ev pg F e env st) (ts.drop (i + 1)) st2 with
                  | .ok ys st3 => R.ok (yt :: ys) st3
                  | _ => .bad) = .ok rest stF := hc
                revert hc
                generalize hre : compGo gg own' env (fun env st => evA pg F cs env st) (fun env st => ev pg F e env st) (ts.drop (i + 1)) st2 = rr
                intro hc
                cases rr with
                | exc _ _ _ => cases hc
                | bad => cases hc
                | ok rest' st3 =>
                  cases hc
                  have hla : acc.length < sizeLine := by
                    rw [← b5.rep.length, ← big_line]
                    show pre.length < 16777216
                    omega
                  exact ⟨acc, b5.at_, hla, st2, pre ++ [yt], rest', hre, by rw [List.append_assoc]; exact hp, by rw [List.length_append, List.length_singleton]; omega, z5, acc ++ [yv], e5, (((g'.trans g3).trans g4).trans g5).out hD _, b5.app r5⟩
      · rintro Hc ⟨st, pre, rest, hc, hp, hl, z', acc, est, g', b⟩
        rw [List.drop_length] at hc
        have hc : R.ok [] st = R.ok rest stF := hc
        cases hc
        rw [List.append_nil] at hp
        subst hp
        subst est
        exact b.done g' hD p1
  · rw [if_neg hlen] at p1
    exact p1.elim
theorem sx_comp (g : Gd w pg tb F X N sc own W k) (hh : w.hot = false) {e' g' it' : Expr} {cs' : List Expr} {scope : Scope} {pos : Pos} {kk : Bool} {e it : Mu.X} {gg : G} {own' : List Nat} {cs : Xs} {ownL : List (Str × Nat)} (hset : noSet it' = true) (ok : BlkOk N sc scope ownL)
    (ho : ownL.map (·.2) = own') (hG : chkG N scope gg g' = true) (hsub : ∀ j ∈ gS gg, j ∈ own') (hi : PI X g' it' (iX w pg F it W))
    (hT : ∀ (s : Shared) (H : Hp) (C : Addr) (cl : List (Str × Addr)) (fp : List Addr), PTs (X.blk s H scope (compEnvC scope cl C X.env) fp) cs' (tXA w pg F cs Wno))
    (hE : ∀ (s : Shared) (H : Hp) (C : Addr) (cl : List (Str × Addr)) (fp : List Addr), PE (X.blk s H scope (compEnvC scope cl C X.env) fp) e' (tX w pg F e Wno)) :
    PE X (.ListComp e' [⟨g', it', cs', 0⟩] scope pos) (tX w pg F (.comp kk e gg it own' cs) W) :=
  PE.imp (pe_lc (g.calm hh) (by rw [g.hN]; exact g.nd) hi (by rw [g.hN, g.hsc]; exact ok) (fun s H C cl fp => sg (gd_blk g hh s H scope cl C fp) hh gg g' hG) hT hE (folded_ok hset)) fun σ H Q q => comp_lc g ho hsub q
/-! ### dicts by comprehension -/
structure BesO (w : Wd) (z : Z) (H : Hp) (D : Addr) (ob : O) (ho : HO) : Prop where
  st : StRel w z H
  hm : z.hm D = none
  as : ∀ n : Nat, z.as[n]? ≠ some D
  at_ : H D = some ho
  rep : RepO w z.as z.hm ob ho
section
variable {z z' : Z} {H H' : Hp} {D : Addr} {ob ob' : O} {ho ho' : HO}
theorem BesO.start (s : StRel w z H) (hD : H D = none) (r : RepO w z.as z.hm ob ho) : BesO w z (upd H D ho) D ob ho where
  st := s.out (s.none_hm hD) (fun n e => by obtain ⟨o, q⟩ := s.trk n D e; exact no_two q hD) _
  hm := s.none_hm hD
  as := fun n e => by obtain ⟨o, q⟩ := s.trk n D e; exact no_two q hD
  at_ := upd_same
  rep := r
theorem BesO.go (b : BesO w z H D ob ho) (g : Go z H z' H') (s' : StRel w z' H') : BesO w z' H' D ob ho where
  st := s'
  hm := by
    cases q : z'.hm D with
    | none => rfl
    | some o =>
      rcases g.old D o q b.hm with h | ⟨n, h⟩
      · exact no_two b.at_ h
      · exact (b.as n h).elim
  as := fun n e => by
    obtain ⟨l, h⟩ := g.pre
    by_cases hn : n < z.as.length
    · rw [h, List.getElem?_append_left hn] at e
      exact b.as n e
    · exact no_two b.at_ (g.new n D (by omega) e)
  at_ := g.kept D _ b.at_ fun n e => (b.as n e).elim
  rep := b.rep.mono (fun _ _ q => g.at q) g.hm
theorem BesO.put (b : BesO w z H D ob ho) (r : RepO w z.as z.hm ob' ho') : BesO w z (upd H D ho') D ob' ho' where
  st := b.st.out b.hm b.as _
  hm := b.hm
  as := b.as
  at_ := upd_same
  rep := r
theorem repO_pure {as : List Addr} {K : Hp} (hnt : ob.nt = true) (r : RepO w as K ob ho) (h : K D = some ho) : Rep w as K ob.pure (.ref D) := by
  cases ob with
  | lst ts =>
    obtain ⟨vs, rfl, q⟩ := r
    show Rep w as K (.lst ts) _
    unfold Rep
    exact ⟨D, vs, rfl, h, q⟩
  | dic ks ts =>
    obtain ⟨kvs, rfl, q1, q2⟩ := r
    show Rep w as K (.dic ks ts) _
    unfold Rep
    exact ⟨D, kvs, rfl, h, q1, q2⟩
  | ins c fs ts =>
    obtain ⟨dx, kvs, rfl, q1, q2⟩ := r
    show Rep w as K (.ins c fs ts) _
    unfold Rep
    exact ⟨D, dx, kvs, rfl, h, q1, q2⟩
  | tab q => cases hnt
/-- it becomes one of ours -/
theorem BesO.done {z0 : Z} {H0 : Hp} (b : BesO w z H D ob ho) (g : Go z0 H0 z H) (h0 : H0 D = none) {kk : Bool} {Q : VK} {E : XK} (p : PostG (rT w) w z0 H0 (mkO kk z.st ob) Q E) (hnt : ob.nt = true := by rfl) : Q (.ref D) H := by
  cases kk with
  | false =>
    have p : PostG (rT w) w z0 H0 (.ok ob.pure z.st) Q E := p
    have mono : ∀ a o', z.hm a = some o' → upd z.hm D ho a = some o' := fun a o' h => by rw [upd_ne (ne_of_none h b.hm)]; exact h
    refine p ⟨z.as, upd z.hm D ho, z.st⟩ H (.ref D) rfl ⟨g.pre, fun a o h => mono a o (g.hm a o h), g.new, g.dead, g.there, g.kept, fun a o h n => ?_⟩ ⟨b.st.len, b.st.nd, fun a o h => ?_, b.st.trk, fun n ob h => ?_, b.st.tabs⟩ ?_
    · have h : upd z.hm D ho a = some o := h
      by_cases e : a = D
      · exact .inl (by rw [e]; exact h0)
      · rw [upd_ne e] at h
        exact g.old a o h n
    · have h : upd z.hm D ho a = some o := h
      by_cases e : a = D
      · subst e
        rw [upd_same] at h
        rw [← h]
        exact b.at_
      · rw [upd_ne e] at h
        exact b.st.sub a o h
    · obtain ⟨a, ho2, h1, h2, h3, h4⟩ := b.st.live n ob h
      exact ⟨a, ho2, h1, by show upd z.hm D _ a = none; rw [upd_ne (fun e => b.as n (by rw [← e]; exact h1))]; exact h2, h3, h4.mono (fun _ _ q => q) mono⟩
    · exact repO_pure hnt (b.rep.mono (fun _ _ q => q) mono) upd_same
  | true =>
    have p : PostG (rT w) w z0 H0 (.ok (.cell z.st.length) (z.st ++ [some ob])) Q E := p
    obtain ⟨l, hl⟩ := g.pre
    refine p ⟨z.as ++ [D], z.hm, z.st ++ [some ob]⟩ H (.ref D) rfl ⟨⟨l ++ [D], by show z.as ++ [D] = _; rw [hl, List.append_assoc]⟩, g.hm, fun n a h e => ?_, fun n h => get_appO (g.dead n h), g.there, g.kept, g.old⟩ ⟨?_, fun i j a e1 e2 => ?_, b.st.sub, fun n a e => ?_, fun n ob1 e => ?_, b.st.tabs_app hnt D⟩ ?_
    · have e : (z.as ++ [D])[n]? = some a := e
      rcases app_at e with e | ⟨_, q⟩
      · exact g.new n a h e
      · rw [q]; exact h0
    · show (z.as ++ [D]).length = (z.st ++ [some ob]).length
      rw [List.length_append, List.length_append, b.st.len]
      rfl
    · have e1 : (z.as ++ [D])[i]? = some a := e1
      have e2 : (z.as ++ [D])[j]? = some a := e2
      rcases app_at e1 with e1 | ⟨h1, q1⟩ <;> rcases app_at e2 with e2 | ⟨h2, q2⟩
      · exact b.st.nd i j a e1 e2
      · exact (b.as i (by rw [← q2]; exact e1)).elim
      · exact (b.as j (by rw [← q1]; exact e2)).elim
      · rw [h1, h2]
    · have e : (z.as ++ [D])[n]? = some a := e
      rcases app_at e with e | ⟨_, q⟩
      · exact b.st.trk n a e
      · exact ⟨_, by rw [q]; exact b.at_⟩
    · have e : (z.st ++ [some ob])[n]? = some (some ob1) := e
      rcases app_at e with e | ⟨h1, q⟩
      · obtain ⟨a, ho2, h1, h2, h3, h4⟩ := b.st.live n ob1 e
        exact ⟨a, ho2, get_app h1, h2, h3, h4.mono (fun _ _ q => get_app q) fun _ _ q => q⟩
      · cases q
        exact ⟨D, ho, by rw [h1, ← b.st.len]; exact app_end z.as D, b.hm, b.at_, b.rep.mono (fun _ _ q => get_app q) (fun _ _ q => q)⟩
    · show Rep w (z.as ++ [D]) z.hm (.cell z.st.length) (.ref D)
      unfold Rep
      exact ⟨D, by rw [← b.st.len]; exact app_end z.as D, rfl⟩
end
theorem dicF_app : ∀ {ps qs : List (Ky × T)} {ks : List Ky} {ts : List T}, dicF (ps ++ qs) ks ts = dicF qs (dicF ps ks ts).1 (dicF ps ks ts).2
  | [], _, _, _ => rfl
  | p :: ps, qs, ks, ts => dicF_app (ps := ps) (qs := qs)
theorem pairsT_app : ∀ {ts us : List T}, pairsT (ts ++ us) = (pairsT ts).bind fun ps => (pairsT us).map fun qs => ps ++ qs
  | [], us => by
    show pairsT us = (pairsT us).map fun qs => qs
    cases pairsT us <;> rfl
  | t :: ts, us => by
    show ((pairT t).bind fun p => (pairsT (ts ++ us)).map fun ps => p :: ps) = ((pairT t).bind fun p => (pairsT ts).map fun ps => p :: ps).bind fun ps => (pairsT us).map fun qs => ps ++ qs
    rw [pairsT_app]
    cases pairT t with
    | none => rfl
    | some p =>
      cases pairsT ts with
      | none => rfl
      | some ps => cases pairsT us <;> rfl
theorem dicF_len : ∀ {ps : List (Ky × T)} {ks : List Ky} {ts : List T}, (dicF ps ks ts).1.length ≤ ks.length + ps.length
  | [], ks, ts => Nat.le_refl _
  | p :: ps, ks, ts => by
    refine Nat.le_trans (dicF_len (ps := ps)) ?_
    unfold putKy
    split
    · simp only [List.length_cons];
            omega
    · simp only [List.length_cons, List.length_append, List.length_nil]; omega
theorem putKy_len {ky : Ky} {v : T} {ks : List Ky} {ts : List T} : (putKy ky v ks ts).1.length ≤ ks.length + 1 := by
  unfold putKy
  split
  · exact Nat.le_succ _
  · rw [List.length_append]; exact Nat.le_refl _
abbrev dcE (pg : Pg) (F : Fn) (ek e : Mu.X) : Env → Sto → R T := fun env st => (ev pg F ek env st).bind fun y st => (ev pg F e env st).bind fun z st => if (keyT y).isSome = true then .ok (.tup [y, z]) st else .bad
theorem comp_dc (g : Gd w pg tb F X N sc own W k) {kk : Bool} {ek e it : Mu.X} {gg : G} {own' : List Nat} {cs : Xs} {ownL : List (Str × Nat)} (ho : ownL.map (·.2) = own') (hsub : ∀ j ∈ gS gg, j ∈ own')
    {σ : L2.St} {H : Hp} {Q : VK} (q : tX w pg F (.dcomp kk ek e gg it own' cs) W σ H Q) : tDc (iX w pg F it W) (gX w gg) (tXA w pg F cs Wno) (tX w pg F ek Wno) (tX w pg F e Wno) (ownL.map (·.2)) σ H Q := by
  obtain ⟨z, env, S, En, p⟩ := q
  refine ⟨z, env, S, En, (PostG.bind (rel := rI w) (r := evI pg F it env z.st) p).imp fun J H1 ⟨z1, ts, g1, s1, wk, p1⟩ D hD => ?_⟩
  rw [ho]
  have p1 : PostG (rT w) w z1 H1 (if ts.length ≤ 1000000 then (match compGo gg own' env (fun env st => evA pg F cs env st) (dcE pg F ek e) ts z1.st with
    | .ok ys st => (match pairsT ys with
      | some ps => mkO kk st (.dic (dicP ps).1 (dicP ps).2)
      | none => .bad)
    | _ => .bad) else .bad) Q _ := p1
  by_cases hlen : ts.length ≤ 1000000
  · rw [if_pos hlen] at p1
    revert p1
    generalize hr : compGo gg own' env (fun env st => evA pg F cs env st) (dcE pg F ek e) ts z1.st = r
    intro p1
    cases r with
    | exc _ _ _ => exact p1.elim
    | bad => exact p1.elim
    | ok ys stF =>
      have p1 : PostG (rT w) w z1 H1 (match pairsT ys with
        | some ps => mkO kk stF (.dic (dicP ps).1 (dicP ps).2)
        | none => .bad) Q _ := p1
      obtain ⟨G0, Y, wk, hGG, yld⟩ := wk
      refine ⟨fun i m Hc => m = ts.length - i ∧ i ≤ ts.length ∧ ∃ st pre rest, compGo gg own' env (fun env st => evA pg F cs env st) (dcE pg F ek e) (ts.drop i) st = .ok rest stF ∧ pre ++ rest = ys ∧ ∃ ps, pairsT pre = some ps ∧ ps.length ≤ i ∧ ∃ z' kvs, z'.st = st ∧ Go z1 H1 z' Hc ∧ BesO w z' Hc D (.dic (dicP ps).1 (dicP ps).2) (.dK kvs),
        ⟨ts.length, by simp, Nat.zero_le _, z1.st, [], ys, hr, rfl, [], rfl, Nat.le_refl _, z1, [], rfl, Go.refl.out hD _, BesO.start s1 hD ⟨[], rfl, rfl, Reps.nil⟩⟩, ?_⟩
      rintro i m Hc ⟨rfl, hi, st, pre, rest, hc, hp, ps, hps, hl, z', kvs, est, g', b⟩
      have hG0 : G0 Hc := hGG Hc fun a o h => b.st.sub a o (g'.hm a o h)
      rcases Nat.lt_or_ge i ts.length with hlt | hge
      · refine .inr ⟨wk.goes i Hc hlt hG0, fun Hn => ∃ st pre rest, compGo gg own' env (fun env st => evA pg F cs env st) (dcE pg F ek e) (ts.drop (i + 1)) st = .ok rest stF ∧ pre ++ rest = ys ∧ ∃ ps, pairsT pre = some ps ∧ ps.length ≤ i + 1 ∧ ∃ z' kvs, z'.st = st ∧ Go z1 H1 z' Hn ∧ BesO w z' Hn D (.dic (dicP ps).1 (dicP ps).2) (.dK kvs), fun Hn q => ⟨_, by omega, rfl, hlt, q⟩, fun x H' y => ?_⟩
        obtain ⟨z3, t, e3, g3, S3, ht, rt⟩ := yld i Hc x H' z' g'.hm (fun n a h => g'.at h) b.st (wk.yields i Hc x H' hlt hG0 y)
        have b3 := b.go g3 S3
        rw [drop_at ht] at hc
        have hc : (match bindG gg t (wipeE env own') with
          | none => R.bad
          | some e1 => match evA pg F cs e1 st with
            | .ok true st1 => match dcE pg F ek e e1 st1 with
              | .ok y st2 => match compGo gg own' env (fun env st => evA pg F cs env st) (dcE pg F ek e) (ts.drop (i + 1)) st2 with
                | .ok ys st3 => .ok (y :: ys) st3
                | _ => .bad
              | _ => .bad
            | .ok false st1 => compGo gg own' env (fun env st => evA pg F cs env st) (dcE pg F ek e) (ts.drop (i + 1)) st1
            | _ => .bad) = .ok rest stF := hc
        cases hb : bindG gg t (wipeE env own') with
        | none => rw [hb] at hc; cases hc
        | some e1 =>
          rw [hb] at hc
          have E3 : EnvR w z3 (wipeE env own') (wipe σ own') := ((En.go g1).go (g'.trans g3)).wipe own'
          refine ⟨z3, t, wipeE env own', e1, S3, E3, rt, hb, fun σ2 En2 sm => ⟨Same.wiped sm hsub, z3, e1, S3, En2, ?_⟩⟩
          rw [e3, est]
          have hc : (match evA pg F cs e1 st with
            | .ok true st1 => match dcE pg F ek e e1 st1 with
              | .ok y st2 => match compGo gg own' env (fun env st => evA pg F cs env st) (dcE pg F ek e) (ts.drop (i + 1)) st2 with
                | .ok ys st3 => R.ok (y :: ys) st3
                | _ => .bad
              | _ => .bad
            | .ok false st1 => compGo gg own' env (fun env st => evA pg F cs env st) (dcE pg F ek e) (ts.drop (i + 1)) st1
            | _ => .bad) = .ok rest stF := hc
          revert hc
          generalize hcond : evA pg F cs e1 st = rc
          intro hc
          cases rc with
          | exc _ _ _ => cases hc
          | bad => cases hc
          | ok bb st1 =>
            intro z4 H4 b' e4 g4 S4 r4
            have r4 : b' = bb := r4
            subst r4
            have b4 := b3.go g4 S4
            cases b' with
            | false =>
              rw [if_neg
                      Bool.false_ne_true]
              exact ⟨st1, pre, rest, hc, hp, ps, hps, by omega, z4, kvs, e4, (g'.trans g3).trans g4, b4⟩
            | true =>
              rw [if_pos rfl]
              refine ⟨z4, e1, S4, En2.go g4, ?_⟩
              rw [e4]
              have hc : (match (ev pg F ek e1 st1).bind fun y st => (ev pg F e e1 st).bind fun z st => if (keyT y).isSome = true then .ok (.tup [y, z]) st else .bad with
                | .ok y st2 => match compGo gg own' env (fun env st => evA pg F cs env st) (dcE pg F ek e) (ts.drop (i + 1)) st2 with
                  | .ok ys st3 => R.ok (y :: ys) st3
                  | _ => .bad
                | _ => .bad) = .ok rest stF := hc
              revert hc
              generalize hel : ev pg F ek e1 st1 = rk
              intro hc
              cases rk with
              | exc _ _ _ => cases hc
              | bad => cases hc
              | ok yt st2 =>
                intro z5 H5 yv e5 g5 S5 r5
                have b5 := b4.go g5 S5
                refine ⟨z5, e1, S5, (En2.go g4).go g5, ?_⟩
                rw [e5]
                have hc : (match (ev pg F e e1 st2).bind fun z st => if (keyT yt).isSome = true then .ok (.tup [yt, z]) st else .bad with
                  | .ok y st2 => match compGo gg own' env (fun env st => evA pg F cs env st) (dcE pg F ek e) (ts.drop (i + 1)) st2 with
                    | .ok ys st3 => R.ok (y :: ys) st3
                    | _ => .bad
                  | _ => .bad) = .ok rest stF := hc
                revert hc
                generalize hev : ev pg F e e1 st2 = rv
                intro hc
                cases rv with
                | exc _ _ _ => cases hc
                | bad => cases hc
                | ok zt st3 =>
                  intro z6 H6 zv e6 g6 S6 r6
                  have b6 := b5.go g6 S6
                  have hc : (match (if (keyT yt).isSome = true then R.ok (.tup [yt, zt]) st3 else .bad) with
                    | .ok y st2 => match compGo gg own' env (fun env st => evA pg F cs env st) (dcE pg F ek e) (ts.drop (i + 1)) st2 with
                      | .ok ys st3 => R.ok (y :: ys) st3
                      | _ => .bad
                    | _ => .bad) = .ok rest stF := hc
                  cases hk : keyT yt with
                  | none => rw [hk] at hc; cases hc
                  | some ky =>
                    rw [hk] at hc
                    have hc : (match compGo gg own' env (fun env st => evA pg F cs env st) (dcE pg F ek e) (ts.drop (i + 1)) st3 with
                      | .ok ys st3 => R.ok (T.tup [yt, zt] :: ys) st3
                      | _ => .bad) = .ok rest stF := hc
                    revert hc
                    generalize hre : compGo gg own' env (fun env st => evA pg F cs env st) (dcE pg F ek e) (ts.drop (i + 1)) st3 = rr
                    intro hc
                    cases rr with
                    | exc _ _ _ => cases hc
                    | bad => cases hc
                    | ok rest' st4 =>
                      cases hc
                      obtain ⟨kvs', ek', m1, m2⟩ := b6.rep
                      cases ek'
                      have ekv := keyT_kV hk (g6.rep r5)
                      have hla : kvs.length < sizeLine := by
                        have h1 : kvs.length = (dicP ps).1.length := by
                          have := congrArg List.length m1
                          simpa using this
                        have h2 := dicF_len (ps := ps) (ks := []) (ts := [])
                        rw [h1, ← big_line]
                        show (dicF ps [] []).1.length < 16777216
                        rw [List.length_nil] at h2
                        omega
                      obtain ⟨n1, n2⟩ := put_rep ky r6 m1 m2
                      have hps' : pairsT (pre ++ [T.tup [yt, zt]]) = some (ps ++ [(ky, zt)]) := by
                        rw [pairsT_app, hps]
                        show (((pairT (.tup [yt, zt])).bind fun p => (pairsT []).map fun ps => p :: ps).map fun qs => ps ++ qs) = _
                        show ((((keyT yt).map fun k => (k, zt)).bind fun p => (pairsT []).map fun ps => p :: ps).map fun qs => ps ++ qs) = _
                        rw [hk]
                        rfl
                      have hd : dicP (ps ++ [(ky, zt)]) = putKy ky zt (dicP ps).1 (dicP ps).2 := by
                        unfold dicP
                        rw [dicF_app]
                        rfl
                      refine ⟨kvs, kyK ky, ekv, b6.at_, hla, st3, pre ++ [T.tup [yt, zt]], rest', hre, by rw [List.append_assoc]; exact hp, ps ++ [(ky, zt)], hps', by rw [List.length_append, List.length_singleton]; omega, z6, putK kvs (kyK ky) zv, e6, ((((g'.trans g3).trans g4).trans g5).trans g6).out hD _, ?_⟩
                      rw [hd]
                      exact b6.put ⟨_, rfl, n1, n2⟩
      · have e : i = ts.length := by omega
        subst e
        refine .inl ⟨wk.stops Hc hG0, ?_⟩
        rw [List.drop_length] at hc
        have hc : R.ok [] st = R.ok rest stF := hc
        cases hc
        rw [List.append_nil] at hp
        subst hp
        subst est
        rw [hps] at p1
        exact b.done g' hD p1
  · rw [if_neg hlen] at p1
    exact p1.elim
theorem sx_dcomp (g : Gd w pg tb F X N sc own W k) (hh : w.hot = false) {k' e' g' it' : Expr} {cs' : List Expr} {scope : Scope} {pos : Pos} {kk : Bool} {ek e it : Mu.X} {gg : G} {own' : List Nat} {cs : Xs} {ownL : List (Str × Nat)} (hset : noSet it' = true) (ok : BlkOk N sc scope ownL)
    (ho : ownL.map (·.2) = own') (hG : chkG N scope gg g' = true) (hsub : ∀ j ∈ gS gg, j ∈ own') (hi : PI X g' it' (iX w pg F it W))
    (hT : ∀ (s : Shared) (H : Hp) (C : Addr) (cl : List (Str × Addr)) (fp : List Addr), PTs (X.blk s H scope (compEnvC scope cl C X.env) fp) cs' (tXA w pg F cs Wno))
    (hK : ∀ (s : Shared) (H : Hp) (C : Addr) (cl : List (Str × Addr)) (fp : List Addr), PE (X.blk s H scope (compEnvC scope cl C X.env) fp) k' (tX w pg F ek Wno))
    (hE : ∀ (s : Shared) (H : Hp) (C : Addr) (cl : List (Str × Addr)) (fp : List Addr), PE (X.blk s H scope (compEnvC scope cl C X.env) fp) e' (tX w pg F e Wno)) :
    PE X (.DictComp k' e' [⟨g', it', cs', 0⟩] scope pos) (tX w pg F (.dcomp kk ek e gg it own' cs) W) :=
  PE.imp (pe_dc (g.calm hh) (by rw [g.hN]; exact g.nd) hi (by rw [g.hN, g.hsc]; exact ok) (fun s H C cl fp => sg (gd_blk g hh s H scope cl C fp) hh gg g' hG) hT hK hE (folded_ok hset)) fun σ H Q q => comp_dc g ho hsub q
/-! ### two clauses -/
def Inn (J1 : It) (g1 : TG) (tt1 : TT) (te : TE) (vs1 : List Nat) (D : Addr) (σ2 : L2.St) (H4 : Hp) (Nx : Hp → Prop) : Prop := ∃ W1 : Nat → Nat → Hp → Prop, (∃ m, W1 0 m H4) ∧ ∀ j k H, W1 j k H →
  (J1.stop j H ∧ Nx H) ∨ (J1.go j H ∧ ∃ Nx1 : Hp → Prop, (∀ H', Nx1 H' → ∃ k', k' < k ∧ W1 (j + 1) k' H') ∧ ∀ x H',
          J1.yld j H x H' → g1 x (wipe σ2 vs1) H' fun σ3 H5 => wipe σ3 vs1 = wipe σ2 vs1 ∧ tt1 σ3 H5 fun b H6 =>
    if b = true then te σ3 H6 fun y H7 =>
            ∃ acc, H7 D = some (.lst acc) ∧ acc.length < sizeLine ∧ Nx1 (upd H7 D (.lst (acc ++ [y]))) else Nx1 H6)
theorem inn_it {J : It} {n : Nat} {G : Hp → Prop} {Y : Nat → Hp → V → Hp → Prop} (w : Walk J n G Y) {g : TG} {tt : TT} {te : TE} {vs : List Nat} {σ : L2.St} {H1 : Hp} {D : Addr} {Qd : Hp → Prop} (Pv : Nat → Hp → Prop) (h0 : Pv 0 H1) (hG : ∀ i H, i ≤ n → Pv i H → G H)
    (hs : ∀ i x H H', i < n → Pv i H → Y i H x H' → g x (wipe σ vs) H' fun σ2 H2 =>
            wipe σ2 vs = wipe σ vs ∧ tt σ2 H2 fun b H3 =>
      if b = true then te σ2 H3 fun y H4 => ∃ acc, H4 D = some (.lst acc) ∧ acc.length < sizeLine ∧ Pv (i + 1) (upd H4 D (.lst (acc ++ [y]))) else Pv (i + 1) H3) (hd : ∀ H, Pv n H → Qd H) : Inn J g tt te vs D σ H1 Qd := by
  refine ⟨fun i m H =>
          m = n - i ∧ i ≤ n ∧ Pv i H, ⟨n, by simp, Nat.zero_le _, h0⟩, ?_⟩
  rintro i m H ⟨rfl, hi, p⟩
  have q := hG i H hi p
  rcases Nat.lt_or_ge i n with hlt | hge
  · exact .inr ⟨w.goes i H hlt q, Pv (i + 1), fun H' p' => ⟨n - (i + 1), by omega, rfl, hlt, p'⟩, fun x H' y => hs i x H H' hlt p (w.yields i H x H' hlt q y)⟩
  · have e : n = i := by omega
    rw [e] at hd
    exact .inl ⟨e ▸ w.stops H q, hd H p⟩
/-- the inner loop: it adds to the list what compGo says -/
theorem inn_go {z1 z' : Z} {H' : Hp} {H1 : Hp} {D : Addr} (g : Gd w pg tb F X N sc own W k) {e : Mu.X} {gg : G} {cs : Xs} {σ : L2.St} {env : Env} {us : List T} {J : It} (wk : WalkOf w z' us J) {pre ys : List T} {st2 : Sto} {acc : List V} {Nx : Hp → Prop} 
    (g1 : Go z1 H1 z' H') (hD : H1 D = none) (b : Bes w z' H' D pre acc) (En : EnvR w z' env σ) (hl : pre.length + us.length < 16777216)
    (hc : compGo gg (gS gg) env (fun env st => evA pg F cs env st) (fun env st => ev pg F e env st) us z'.st = .ok ys st2)
    (hx : ∀ z2 H2 acc2, z2.st = st2 → Go z1 H1 z2 H2 → Bes w z2 H2 D (pre ++ ys) acc2 → ys.length ≤ us.length → Nx H2) :
    Inn J (gX w gg) (tXA w pg F cs Wno) (tX w pg F e Wno) (gS gg) D σ H' Nx := by
  obtain ⟨G0, Y, wk, hGG, yld⟩ := wk
  refine inn_it wk (Pv := fun i Hc => ∃ st pre' rest, compGo gg (gS gg) env (fun env st => evA pg F cs env st) (fun env st => ev pg F e env st) (us.drop i) st = .ok rest st2 ∧ pre' ++ rest = pre ++ ys ∧ pre'.length ≤ pre.length + i ∧ ∃ z2 acc, z2.st = st ∧ Go z1 H1 z2 Hc ∧ EnvR w z2 env σ ∧ Bes w z2 Hc D pre' acc ∧ (∀ a o, z'.hm a = some o → z2.hm a = some o) ∧ ∀ (n : Nat) (a : Addr), z'.as[n]? = some a → z2.as[n]? = some a) ?_ ?_ ?_ ?_
  · exact ⟨z'.st, pre, ys, hc, rfl, Nat.le_refl _, z', acc, rfl, g1, En, b, fun _ _ h => h, fun _ _ h => h⟩
  · rintro i Hc hi ⟨st, pre', rest, _, _, _, z2, acc2, _, g2, _, b2, m1, m2⟩
    exact hGG Hc fun a o h => b2.st.sub a o (m1 a o h)
  · rintro i x Hc Hn hi ⟨st, pre', rest, hc, hp, hpl, z2, acc2, est, g2, En2, b2, m1, m2⟩ y
    obtain ⟨z3, t, e3, g3, S3, ht, rt⟩ := yld i Hc x Hn z2 m1 m2 b2.st y
    have b3 := b2.go g3 S3
    rw [drop_at ht] at hc
    have hc : (match bindG gg t (wipeE env (gS gg)) with
      | none => R.bad
      | some e1 => match evA pg F cs e1 st with
        | .ok true st1 => match ev pg F e e1 st1 with
          | .ok y st2 => match compGo gg (gS gg) env (fun env st => evA pg F cs env st) (fun env st => ev pg F e env st) (us.drop (i + 1)) st2 with
            | .ok ys st3 => .ok (y :: ys) st3
            | _ => .bad
          | _ => .bad
        | .ok false st1 => compGo gg (gS gg) env (fun env st => evA pg F cs env st) (fun env st => ev pg F e env st) (us.drop (i + 1)) st1
        | _ => .bad) = .ok rest st2 := hc
    cases hb : bindG gg t (wipeE env (gS gg)) with
    | none => rw [hb] at hc; cases hc
    | some e1 =>
      rw [hb] at hc
      have En3 : EnvR w z3 env σ := En2.go g3
      have E3 : EnvR w z3 (wipeE env (gS gg)) (wipe σ (gS gg)) := En3.wipe (gS gg)
      refine ⟨z3, t, wipeE env (gS gg), e1, S3, E3, rt, hb, fun σ2 Ee sm => ⟨Same.wiped sm (fun j hj => hj), z3, e1, S3, Ee, ?_⟩⟩
      rw [e3, est]
      have hc : (match evA pg F cs e1 st with
        | .ok true st1 => match ev pg F e e1 st1 with
          | .ok y st2 => match compGo gg (gS gg) env (fun env st => evA pg F cs env st) (fun env st => ev pg F e env st) (us.drop (i + 1)) st2 with
            | .ok ys st3 => R.ok (y :: ys) st3
            | _ => .bad
          | _ => .bad
        | .ok false st1 => compGo gg (gS gg) env (fun env st => evA pg F cs env st) (fun env st => ev pg F e env st) (us.drop (i + 1)) st1
        | _ => .bad) = .ok rest st2 := hc
      revert hc
      generalize hcond : evA pg F cs e1 st = rc
      intro hc
      cases rc with
      | exc _ _ _ => cases hc
      | bad => cases hc
      | ok bb st1 =>
        intro z4 H4 b' e4 g4 S4 r4
        have r4 : b' = bb := r4
        subst r4
        have b4 := b3.go g4 S4
        cases b' with
        | false =>
          rw [if_neg
                  Bool.false_ne_true]
          exact ⟨st1, pre', rest, hc, hp, by omega, z4, acc2, e4, (g2.trans g3).trans g4, En3.go g4, b4, fun a o h => (g3.trans g4).hm a o (m1 a o h), fun n a h => (g3.trans g4).at (m2 n a h)⟩
        | true =>
          rw [if_pos rfl]
          refine ⟨z4, e1, S4, Ee.go g4, ?_⟩
          rw [e4]
          have hc : (match ev pg F e e1 st1 with
            | .ok y st2 => match compGo gg (gS gg) env (fun env st => evA pg F cs env st) (fun env st => ev pg F e env st) (us.drop (i + 1)) st2 with
              | .ok ys st3 => R.ok (y :: ys) st3
              | _ => .bad
            | _ => .bad) = .ok rest st2 := hc
          revert hc
          generalize hel : ev pg F e e1 st1 = re
          intro hc
          cases re with
          | exc _ _ _ => cases hc
          | bad => cases hc
          | ok yt st2' =>
            intro z5 H5 yv e5 g5 S5 r5
            have b5 := b4.go g5 S5
            have hc : (match compGo gg (gS gg) env (fun env st => evA pg F cs env st) (fun env st => ev pg F e env st) (us.drop (i + 1)) st2' with
              | .ok ys st3 => R.ok (yt :: ys) st3
              | _ => .bad) = .ok rest st2 := hc
            revert hc
            generalize hre : compGo gg (gS gg) env (fun env st => evA pg F cs env st) (fun env st => ev pg F e env st) (us.drop (i + 1)) st2' = rr
            intro hc
            cases rr with
            | exc _ _ _ => cases hc
            | bad => cases hc
            | ok rest' st3 =>
              cases hc
              have hla : acc2.length < sizeLine := by
                rw [← b5.rep.length, ← big_line]
                show pre'.length < 16777216
                omega
              have g6 := (((g2.trans g3).trans g4).trans g5).out hD (.lst (acc2 ++ [yv]))
              have b6 := b5.app r5
              exact ⟨acc2, b5.at_, hla, st2', pre' ++ [yt], rest', hre, by rw [List.append_assoc]; exact hp, by rw [List.length_append, List.length_singleton]; omega, z5, acc2 ++ [yv], e5, g6, (En3.go g4).go g5, b6, fun a o h => ((g3.trans g4).trans g5).hm a o (m1 a o h), fun n a h => ((g3.trans g4).trans g5).at (m2 n a h)⟩
  · rintro Hc ⟨st, pre', rest, hc, hp, hpl, z2, acc2, est, g2, _, b2, _⟩
    rw [List.drop_length] at hc
    have hc : R.ok [] st = R.ok rest st2 := hc
    cases hc
    rw [List.append_nil] at hp
    subst hp
    refine hx z2 Hc acc2 est g2 b2 ?_
    rw [List.length_append] at hpl
    omega
theorem comp_lc2 (g : Gd w pg tb F X N sc own W k) {e it it2 : Mu.X} {g1 g2 : G} {own' : List Nat} {cs : Xs} {ownL : List (Str × Nat)} (ho : ownL.map (·.2) = own') (hsub : ∀ j ∈ gS g1, j ∈ own')
    {σ : L2.St} {H : Hp} {Q : VK} (q : tX w pg F (.comp2 e g1 it g2 it2 own' cs) W σ H Q) : tLc2 (iX w pg F it W) (gX w g1) (tXA w pg F .nil Wno) (iX w pg F it2 Wno) (gX w g2) (tXA w pg F cs Wno) (tX w pg F e Wno) (ownL.map (·.2)) (gS g2) σ H Q := by
  obtain ⟨z, env, S, En, p⟩ := q
  refine ⟨z, env, S, En, (PostG.bind (rel := rI w) (r := evI pg F it env z.st) p).imp fun J H1 ⟨z1, ts, gg1, s1, wk, p1⟩ D hD => ?_⟩
  rw [ho]
  have p1 : PostG (rT w) w z1 H1 (if ts.length ≤ 4000 then (match comp2Go g1 g2 own' (gS g2) env (fun env st => evI pg F it2 env st) (fun env st => evA pg F cs env st) (fun env st => ev pg F e env st) ts z1.st with
    | .ok ys st => .ok (.lst ys) st
    | _ => .bad) else .bad) Q _ := p1
  by_cases hlen : ts.length ≤ 4000
  · rw [if_pos hlen] at p1
    revert p1
    generalize hr : comp2Go g1 g2 own' (gS g2) env (fun env st => evI pg F it2 env st) (fun env st => evA pg F cs env st) (fun env st => ev pg F e env st) ts z1.st = r
    intro p1
    cases r with
    | exc _ _ _ => exact p1.elim
    | bad => exact p1.elim
    | ok ys stF =>
      obtain ⟨G0, Y, wk, hGG, yld⟩ := wk
      refine ⟨fun i m Hc => m = ts.length - i ∧ i ≤ ts.length ∧ ∃ st pre rest, comp2Go g1 g2 own' (gS g2) env (fun env st => evI pg F it2 env st) (fun env st => evA pg F cs env st) (fun env st => ev pg F e env st) (ts.drop i) st = .ok rest stF ∧ pre ++ rest = ys ∧ pre.length ≤ 4000 * i ∧ ∃ z' acc, z'.st = st ∧ Go z1 H1 z' Hc ∧ Bes w z' Hc D pre acc,
        ⟨ts.length, by simp, Nat.zero_le _, z1.st, [], ys, hr, rfl, Nat.le_refl _, z1, [], rfl, Go.refl.out hD _, Bes.start s1 hD⟩, ?_⟩
      rintro i m Hc ⟨rfl, hi, st, pre, rest, hc, hp, hl, z', acc, est, g', b⟩
      have hG0 : G0 Hc := hGG Hc fun a o h => b.st.sub a o (g'.hm a o h)
      rcases Nat.lt_or_ge i ts.length with hlt | hge
      · refine .inr ⟨wk.goes i Hc hlt hG0, fun Hn => ∃ st pre rest, comp2Go g1 g2 own' (gS g2) env (fun env st => evI pg F it2 env st) (fun env st => evA pg F cs env st) (fun env st => ev pg F e env st) (ts.drop (i + 1)) st = .ok rest stF ∧ pre ++ rest = ys ∧ pre.length ≤ 4000 * (i + 1) ∧ ∃ z' acc, z'.st = st ∧ Go z1 H1 z' Hn ∧ Bes w z' Hn D pre acc, fun Hn q => ⟨_, by omega, rfl, hlt, q⟩, fun x H' y => ?_⟩
        obtain ⟨z3, t, e3, g3, S3, ht, rt⟩ := yld i Hc x H' z' g'.hm (fun n a h => g'.at h) b.st (wk.yields i Hc x H' hlt hG0 y)
        have b3 := b.go g3 S3
        rw [drop_at ht] at hc
        have hc : (match bindG g1 t (wipeE env own') with
          | none => R.bad
          | some e1 => match evI pg F it2 e1 st with
            | .ok us st1 => if us.length ≤ 4000 then (match compGo g2 (gS g2) e1 (fun env st => evA pg F cs env st) (fun env st => ev pg F e env st) us st1 with
              | .ok ys st2 => match comp2Go g1 g2 own' (gS g2) env (fun env st => evI pg F it2 env st) (fun env st => evA pg F cs env st) (fun env st => ev pg F e env st) (ts.drop (i + 1)) st2 with
                | .ok zs st3 => .ok (ys ++ zs) st3
                | _ => .bad
              | _ => .bad) else .bad
            | _ => .bad) = .ok rest stF := hc
        cases hb : bindG g1 t (wipeE env own') with
        | none => rw [hb] at hc; cases hc
        | some e1 =>
          rw [hb] at hc
          have E3 : EnvR w z3 (wipeE env own') (wipe σ own') := ((En.go gg1).go (g'.trans g3)).wipe own'
          refine ⟨z3, t, wipeE env own', e1, S3, E3, rt, hb, fun σ2 En2 sm => ⟨Same.wiped sm hsub, z3, e1, S3, En2, ?_⟩⟩
          intro z4 H4 b' e4 g4 S4 r4
          have r4 : b' = true := r4
          subst r4
          rw [if_pos rfl]
          have b4 := b3.go g4 S4
          refine ⟨z4, e1, S4, En2.go g4, ?_⟩
          rw [e4, e3, est]
          have hc : (match evI pg F it2 e1 st with
            | .ok us st1 => if us.length ≤ 4000 then (match compGo g2 (gS g2) e1 (fun env st => evA pg F cs env st) (fun env st => ev pg F e env st) us st1 with
              | .ok ys st2 => match comp2Go g1 g2 own' (gS g2) env (fun env st => evI pg F it2 env st) (fun env st => evA pg F cs env st) (fun env st => ev pg F e env st) (ts.drop (i + 1)) st2 with
                | .ok zs st3 => R.ok (ys ++ zs) st3
                | _ => .bad
              | _ => .bad) else .bad
            | _ => .bad) = .ok rest stF := hc
          revert hc
          generalize hit : evI pg F it2 e1 st = ri
          intro hc
          cases ri with
          | exc _ _ _ => cases hc
          | bad => cases hc
          | ok us st1 =>
            have hc : (if us.length ≤ 4000 then (match compGo g2 (gS g2) e1 (fun env st => evA pg F cs env st) (fun env st => ev pg F e env st) us st1 with
              | .ok ys st2 => match comp2Go g1 g2 own' (gS g2) env (fun env st => evI pg F it2 env st) (fun env st => evA pg F cs env st) (fun env st => ev pg F e env st) (ts.drop (i + 1)) st2 with
                | .ok zs st3 => R.ok (ys ++ zs) st3
                | _ => .bad
              | _ => .bad) else .bad) = .ok rest stF := hc
            by_cases hu : us.length ≤ 4000
            · rw [if_pos hu] at hc
              revert hc
              generalize hin : compGo g2 (gS g2) e1 (fun env st => evA pg F cs env st) (fun env st => ev pg F e env st) us st1 = rin
              intro hc
              cases rin with
              | exc _ _ _ => cases hc
              | bad => cases hc
              | ok ys1 st2 =>
                have hc : (match comp2Go g1 g2 own' (gS g2) env (fun env st => evI pg F it2 env st) (fun env st => evA pg F cs env st) (fun env st => ev pg F e env st) (ts.drop (i + 1)) st2 with
                  | .ok zs st3 => R.ok (ys1 ++ zs) st3
                  | _ => .bad) = .ok rest stF := hc
                revert hc
                generalize hre : comp2Go g1 g2 own' (gS g2) env (fun env st => evI pg F it2 env st) (fun env st => evA pg F cs env st) (fun env st => ev pg F e env st) (ts.drop (i + 1)) st2 = rr
                intro hc
                cases rr with
                | exc _ _ _ => cases hc
                | bad => cases hc
                | ok zs st3 =>
                  cases hc
                  intro z5 H5 J1 e5 g5 S5 wk1
                  have b5 := b4.go g5 S5
                  have gAll := ((g'.trans g3).trans g4).trans g5
                  have En5 : EnvR w z5 e1 σ2 := (En2.go g4).go g5
                  rw [← e5] at hin
                  refine inn_go (z1 := z1) (H1 := H1) (z' := z5) (H' := H5) g wk1 (pre := pre) (ys := ys1) (st2 := st2) (acc := acc) gAll hD b5 En5 (by omega) hin fun z6 H6 acc6 e6 g6 b6 hly => ?_
                  exact ⟨st2, pre ++ ys1, zs, hre, by rw [List.append_assoc]; exact hp, by rw [List.length_append]; omega, z6, acc6, e6, g6, b6⟩
            · rw [if_neg hu] at hc
              cases hc
      · have e : i = ts.length := by omega
        subst e
        refine .inl ⟨wk.stops Hc hG0, ?_⟩
        rw [List.drop_length] at hc
        have hc : R.ok [] st = R.ok rest stF := hc
        cases hc
        rw [List.append_nil] at hp
        subst hp
        subst est
        exact b.done (kk := false) g' hD p1
  · rw [if_neg hlen] at p1
    exact p1.elim
theorem sx_comp2 (g : Gd w pg tb F X N sc own W k) (hh : w.hot = false) {e' g1' g2' it1' it2' : Expr} {cs' : List Expr} {scope : Scope} {pos : Pos} {e it1 it2 : Mu.X} {g1 g2 : G} {own' : List Nat} {cs : Xs} {ownL : List (Str × Nat)} (hset : noSet it1' = true) (hset2 : noSet it2' = true) (ok : BlkOk N sc scope ownL)
    (ho : ownL.map (·.2) = own') (hG : chkG N scope g1 g1' = true) (hsub : ∀ j ∈ gS g1, j ∈ own') (hG2 : chkG N scope g2 g2' = true) (hsub2 : ∀ j ∈ gS g2, j ∈ own') (hi : PI X g1' it1' (iX w pg F it1 W))
    (hi2 : ∀ (s : Shared) (H : Hp) (C : Addr) (cl : List (Str × Addr)) (fp : List Addr), PI (X.blk s H scope (compEnvC scope cl C X.env) fp) g2' it2' (iX w pg F it2 Wno))
    (hT : ∀ (s : Shared) (H : Hp) (C : Addr) (cl : List (Str × Addr)) (fp : List Addr), PTs (X.blk s H scope (compEnvC scope cl C X.env) fp) cs' (tXA w pg F cs Wno))
    (hE : ∀ (s : Shared) (H : Hp) (C : Addr) (cl : List (Str × Addr)) (fp : List Addr), PE (X.blk s H scope (compEnvC scope cl C X.env) fp) e' (tX w pg F e Wno)) :
    PE X (.ListComp e' [⟨g1', it1', [], 0⟩, ⟨g2', it2', cs', 0⟩] scope pos) (tX w pg F (.comp2 e g1 it1 g2 it2 own' cs) W) :=
  PE.imp (pe_lc2 (vs1 := gS g2) (g.calm hh) (by rw [g.hN]; exact g.nd) hi (by rw [g.hN, g.hsc]; exact ok) (by rw [ho]; exact hsub2) (fun s H C cl fp => sg (gd_blk g hh s H scope cl C fp) hh g1 g1' hG) (fun s H C cl fp => sa_nil) hi2
    (fun s H C cl fp => sg (gd_blk g hh s H scope cl C fp) hh g2 g2' hG2) hT hE (folded_ok hset) (fun env => folded_ok hset2)) fun σ H Q q => comp_lc2 g ho hsub q
end
end Mu
end
section
set_option Elab.async false
set_option linter.all false
set_option maxRecDepth 100000
set_option maxHeartbeats 4000010
/-! Mu, part 12: the soundness of all expressions. -/
namespace Mu
open PySem
open PySem.Spec
open PyProof.Rows
open L2

theorem chks_star {tb : Tab} {N : List Str} {sc : Scope} : ∀ {c : Xs} {es : List Expr}, chks tb N sc c es = true → es.all noStar = true
  | .nil, [], _ => rfl
  | .cons a r, e :: es, h => by
    have h : (noStar e && chk tb N sc a e && chks tb N sc r es) = true := h
    rw [Bool.and_eq_true, Bool.and_eq_true] at h
    rw [List.all_cons, h.1.1, chks_star h.2]
    rfl
  | .nil, _ :: _, h => absurd h Bool.false_ne_true
  | .cons _ _, [], h => absurd h Bool.false_ne_true
theorem chks_nil {tb : Tab} {N : List Str} {sc : Scope} {c : Xs} {es : List Expr} (h : chks tb N sc c es = true) (e : es = []) : c = .nil := by
  subst e
  cases c with
  | nil => rfl
  | cons a r => exact absurd h Bool.false_ne_true
def boolE : Expr → Bool
  | .BoolOp _ _ _ => true
  | _ => false
theorem plain_bool {e : Expr} (h : plainT e = true) : boolE e = false := by
  cases e <;> first | rfl | exact absurd h Bool.false_ne_true
theorem own_ok {N : List Str} {own : List Nat} {ownL : List (Str × Nat)} (e : ownL.map (·.2) = own) : ownL.map (·.2) = own := e
theorem chkK_ok {tb : Tab} {N : List Str} {sc : Scope} : ∀ {c : Xs} {ks : List Keyword}, chkK tb N sc c ks = true → ks.all (fun k => k.arg.isSome) = true ∧ c.len = ks.length
  | .nil, [], _ => ⟨rfl, rfl⟩
  | .cons a r, e :: es, h => by
    have h : (e.arg.isSome && chk tb N sc a e.value && chkK tb N sc r es) = true := h
    rw [Bool.and_eq_true, Bool.and_eq_true] at h
    obtain ⟨h1, h2⟩ := chkK_ok h.2
    exact ⟨by rw [List.all_cons, h.1.1, h1]; rfl, congrArg Nat.succ h2⟩
  | .nil, _ :: _, h => absurd h Bool.false_ne_true
  | .cons _ _, [], h => absurd h Bool.false_ne_true
section
variable {w : Wd} {pg : Pg} {tb : Tab} {F : Fn} {N : List Str} {k : Nat}
mutual
theorem sx : ∀ (c : Mu.X) {Y : Cx} {sc own : Scope} {W : WX} (e : Expr), Gd w pg tb F Y N sc own W k → chk tb N sc c e = true → PE Y e (tX w pg F c W)
  | .v i, Y, sc, own, W, e, g, h => by
    cases e with
    | Name x pos =>
      have h : (decide (N[i]? = some x) && visB sc x && okName x) = true := h
      simp only [Bool.and_eq_true,
              decide_eq_true_eq] at h
      exact sx_v g h.1.1 h.1.2 h.2
    | _ => exact absurd h Bool.false_ne_true
  | .c t, Y, sc, own, W, e, g, h => by
    cases e with
    | Constant k j pos => exact constB_ok h
    | _ => exact absurd h Bool.false_ne_true
  | .bin op a b, Y, sc, own, W, e, g, h => by
    cases e with
    | BinOp a' op' b' pos =>
      have h : (decide (op = op') && chk tb N sc a a' && chk tb N sc b b') = true := h
      simp only [Bool.and_eq_true,
              decide_eq_true_eq] at h
      obtain ⟨⟨rfl, h1⟩, h2⟩ := h
      exact sx_bin g op (sx a a' g h1) (sx b b' g h2)
    | _ => exact absurd h Bool.false_ne_true
  | .cmp op a b, Y, sc, own, W, e, g, h => by
    cases e with
    | Compare a' ops bs pos =>
      match ops, bs, h with
      | [op'], [b'], h =>
        have h : (decide (op = op') && noSet b' && chk tb N sc a a' && chk tb N sc b b') = true := h
        simp only [Bool.and_eq_true,
                decide_eq_true_eq] at h
        obtain ⟨⟨⟨rfl, h0⟩, h1⟩, h2⟩ := h
        exact sx_cmp g op h0 (sx a a' g h1) (sx b b' g h2)
    | _ => exact absurd h Bool.false_ne_true
  | .gl n, Y, sc, own, W, e, g, h => by
    cases e with
    | Name x pos =>
      have h : (decide (tb.gl[n]? = some x) && glB sc x && okName x) = true := h
      simp only [Bool.and_eq_true,
              decide_eq_true_eq] at h
      exact sx_gl g h.1.1 h.1.2 h.2
    | _ => exact absurd h Bool.false_ne_true
  | .gc y t, Y, sc, own, W, e, g, h => by
    cases e with
    | Name x pos =>
      have h : (decide (y = x) && glB sc x && okName x && tb.gc.any fun p => decide (p.1 = x) && T.beq p.2 t) = true := h
      simp only [Bool.and_eq_true, decide_eq_true_eq, List.any_eq_true] at h
      obtain ⟨⟨⟨rfl, h1⟩, h2⟩, q, h3, h4, h5⟩ := h
      have e5 := T.beq_eq _ _ h5
      subst e5
      rw [← h4] at h1 h2 ⊢
      exact sx_gc g (t := q.2) h3 h1 h2
    | _ => exact absurd h Bool.false_ne_true
  | .bty y n, Y, sc, own, W, e, g, h => by
    cases e with
    | Name x pos =>
      have h : (decide (y = x) && glB sc x && okName x && decide (x ∈ tb.free) && decide ((y, n) ∈ tyNames)) = true := h
      simp only [Bool.and_eq_true,
              decide_eq_true_eq] at h
      obtain ⟨⟨⟨⟨rfl, h1⟩, h2⟩, h3⟩, h4⟩ := h
      exact sx_bty g h4 h1 h2 h3
    | _ => exact absurd h Bool.false_ne_true
  | .chn o p a b c, Y, sc, own, W, e, g, h => by
    cases e with
    | Compare a' ops bs pos =>
      match ops, bs, h with
      | [o', p'], [b', c'], h =>
        have h : (decide (o = o') && decide (p = p') && noSet b' && noSet c' && chk tb N sc a a' && chk tb N sc b b' && chk tb N sc c c') = true := h
        simp only [Bool.and_eq_true,
                decide_eq_true_eq] at h
        obtain ⟨⟨⟨⟨⟨⟨rfl, rfl⟩, h1⟩, h2⟩, h3⟩, h4⟩, h5⟩ := h
        exact sx_chn g o p h1 h2 (sx a a' g h3) (sx b b' g h4) (sx c c' g h5)
    | _ => exact absurd h Bool.false_ne_true
  | .and2 a b, Y, sc, own, W, e, g, h => by
    cases e with
    | BoolOp op es pos =>
      match op, es, h with
      | .And, a' :: b' :: r, h =>
        have h : (chk tb N sc a a' && chk tb N sc b (.BoolOp .And (b' :: r) pos)) = true := h
        rw [Bool.and_eq_true] at h
        exact sx_and g (sx a a' g h.1) (sx b _ g h.2)
    | _ => exact absurd h Bool.false_ne_true
  | .or2 a b, Y, sc, own, W, e, g, h => by
    cases e with
    | BoolOp op es pos =>
      match op, es, h with
      | .Or, a' :: b' :: r, h =>
        have h : (chk tb N sc a a' && chk tb N sc b (.BoolOp .Or (b' :: r) pos)) = true := h
        rw [Bool.and_eq_true] at h
        exact sx_or g (sx a a' g h.1) (sx b _ g h.2)
    | _ => exact absurd h Bool.false_ne_true
  | .one a, Y, sc, own, W, e, g, h => by
    cases e with
    | BoolOp op es pos =>
      match es, h with
      | [a'], h => exact pe_one (PE.imp (sx a a' g h) fun σ H Q q => q)
    | _ => exact absurd h Bool.false_ne_true
  | .not1 a, Y, sc, own, W, e, g, h => by
    cases e with
    | UnaryOp op a' pos =>
      match op, h with
      | .Not, h => exact sx_not g (sx a a' g h)
    | _ => exact absurd h Bool.false_ne_true
  | .neg a, Y, sc, own, W, e, g, h => by
    cases e with
    | UnaryOp op a' pos =>
      match op, h with
      | .USub, h => exact sx_neg (sx a a' g h)
    | _ => exact absurd h Bool.false_ne_true
  | .ite c a b, Y, sc, own, W, e, g, h => by
    cases e with
    | IfExp c' a' b' pos =>
      have h : (chkT tb N sc c c' && chk tb N sc a a' && chk tb N sc b b') = true := h
      simp only [Bool.and_eq_true]
              at h
      exact sx_ite (sT c c' g h.1.1).1 (sx a a' g h.1.2) (sx b b' g h.2)
    | _ => exact absurd h Bool.false_ne_true
  | .tup es, Y, sc, own, W, e, g, h => by
    cases e with
    | Tuple es' kk pos => exact sx_tup (sxs es es' g h)
    | _ => exact absurd h Bool.false_ne_true
  | .lst kk es, Y, sc, own, W, e, g, h => by
    cases e with
    | List es' pos => exact sx_lst (sxs es es' g h)
    | _ => exact absurd h Bool.false_ne_true
  | .dnew kk, Y, sc, own, W, e, g, h => by
    cases e with
    | Dict ks vs pos =>
      match ks, vs, h with
      | [], [], h => exact sx_dnew
    | _ => exact absurd h Bool.false_ne_true
  | .cl f es, Y, sc, own, W, e, g, h => by
    cases e with
    | Call fe es' kws pos =>
      match fe, kws, h with
      | .Name x p0, [], h =>
        have h : (decide (tb.fn[f]? = some x) && glB sc x && okName x && chks tb N sc es es') = true := h
        simp only [Bool.and_eq_true,
                decide_eq_true_eq] at h
        obtain ⟨⟨⟨h1, h2⟩,
                h3⟩, h4⟩ := h
        have hp := sxs es es' g h4
        have hst := chks_star h4
        cases es' with
        | nil =>
          cases chks_nil h4 rfl
          exact sx_cl0 g h1 h2 h3
        | cons e es' => exact sx_cl1 g h1 h2 h3 hst hp
    | _ => exact absurd h Bool.false_ne_true
  | .bl b es, Y, sc, own, W, e, g, h => by
    cases e with
    | Call fe es' kws pos =>
      match fe, kws, h with
      | .Name x p0, [], h =>
        have h : (decide (bName b = x) && glB sc x && okName x && decide (x ∈ tb.free) && !es'.isEmpty && chks tb N sc es es') = true := h
        simp only [Bool.and_eq_true,
                decide_eq_true_eq] at h
        obtain ⟨⟨⟨⟨⟨rfl, h1⟩, h2⟩, h3⟩, h4⟩, h5⟩ := h
        have hp := sxs es es' g h5
        have hst := chks_star h5
        cases es' with
        | nil => cases h4
        | cons e es' => exact sx_bl g b h1 h2 h3 hst hp
    | _ => exact absurd h Bool.false_ne_true
  | .mk c es, Y, sc, own, W, e, g, h => by
    cases e with
    | Call fe es' kws pos =>
      match fe, kws, h with
      | .Name x p0, [], h =>
        have h : (decide (tb.gl[c]? = some x) && glB sc x && okName x && decide (c ∈ tb.cl) && chks tb N sc es es') = true := h
        simp only [Bool.and_eq_true,
                decide_eq_true_eq] at h
        obtain ⟨⟨⟨⟨h1, h2⟩, h3⟩, h4⟩, h5⟩ := h
        have hp := sxs es es' g h5
        have hst := chks_star h5
        cases es' with
        | nil =>
          cases chks_nil h5 rfl
          exact sx_mk0 g h1 h2 h3 (g.tab.mks c h4)
        | cons e es' => exact sx_mk1 g h1 h2 h3 (g.tab.mks c h4) hst hp
    | _ => exact absurd h Bool.false_ne_true
  | .mt m o es, Y, sc, own, W, e, g, h => by
    cases e with
    | Call fe es' kws pos =>
      match fe, kws, h with
      | .Attribute o' x apos, [], h =>
        have h : (decide (mName m = x) && plainO o' && decide (apos.endLine = pos.line) && decide (es'.length < 20) && chk tb N sc o o' && chks tb N sc es es') = true := h
        simp only [Bool.and_eq_true,
                decide_eq_true_eq] at h
        obtain ⟨⟨⟨⟨⟨rfl, h1⟩, h2⟩, h3⟩, h4⟩, h5⟩ := h
        have hl : (apos.endLine == pos.line) = true := by rw [h2]; exact beq_self_eq_true _
        have hp := sxs es es' g h5
        have ho := sx o o' g h4
        have hst := chks_star h5
        cases es' with
        | nil =>
          cases chks_nil h5 rfl
          exact sx_mt0 g m h1 hl ho
        | cons e es' => exact sx_mt1 g m h1 hl h3 hst ho hp
    | _ => exact absurd h Bool.false_ne_true
  | .om m o es, Y, sc, own, W, e, g, h => by
    cases e with
    | Call fe es' kws pos =>
      match fe, kws, h with
      | .Attribute o' x apos, [], h =>
        have h : (decide (tb.name m = x) && plainO o' && decide (apos.endLine = pos.line) && decide (es'.length < 20) && chk tb N sc o o' && chks tb N sc es es') = true := h
        simp only [Bool.and_eq_true,
                decide_eq_true_eq] at h
        obtain ⟨⟨⟨⟨⟨h0, h1⟩, h2⟩, h3⟩, h4⟩, h5⟩ := h
        have hl : (apos.endLine == pos.line) = true := by rw [h2]; exact beq_self_eq_true _
        exact sx_om g h0 h1 hl h3 (chks_star h5) (chks_nil h5) (sx o o' g h4) (sxs es es' g h5)
    | _ => exact absurd h Bool.false_ne_true
  | .ix a b, Y, sc, own, W, e, g, h => by
    cases e with
    | Subscript a' b' pos =>
      have h : (noSlice b' && chk tb N sc a a' && chk tb N sc b b') = true := h
      simp only [Bool.and_eq_true]
              at h
      exact sx_ix g h.1.1 (sx a a' g h.1.2) (sx b b' g h.2)
    | _ => exact absurd h Bool.false_ne_true
  | .sl a lo hi, Y, sc, own, W, e, g, h => by
    cases e with
    | Subscript a' b' pos =>
      match b', h with
      | .Slice lo' hi' none p2, h =>
        have h : (chk tb N sc a a' && chkO tb N sc lo lo' && chkO tb N sc hi hi') = true := h
        simp only [Bool.and_eq_true]
                at h
        exact sx_sl g (sx a a' g h.1.1) (sO lo lo' g h.1.2) (sO hi hi' g h.2)
    | _ => exact absurd h Bool.false_ne_true
  | .fld a f, Y, sc, own, W, e, g, h => by
    cases e with
    | Attribute a' x pos =>
      have h : (decide (tb.name f = x) && plainO a' && chk tb N sc a a') = true := h
      simp only [Bool.and_eq_true,
              decide_eq_true_eq] at h
      exact sx_fld g h.1.1 h.1.2 (sx a a' g h.2)
    | _ => exact absurd h Bool.false_ne_true
  | .comp kk e1 gg it own' cs, Y, sc, own, W, e, g, h => by
    cases e with
    | ListComp e' gens scope pos =>
      match gens, h with
      | [⟨g', it', cs', 0⟩], h =>
        have h : (noSet it' && blkC N sc scope (own'.filterMap fun i => (N[i]?).map fun x => (x, i)) && decide ((own'.filterMap fun i => (N[i]?).map fun x => (x, i)).map (·.2) = own') && chkG N scope gg g' && (gS gg).all (fun j => decide (j ∈ own')) && chkI tb N sc it g' it' && chkA tb N (relS scope sc) cs cs' && chk tb N (relS scope sc) e1 e' && !tb.hot) = true := h
        simp only [Bool.and_eq_true, decide_eq_true_eq, List.all_eq_true] at h
        obtain ⟨⟨⟨⟨⟨⟨⟨⟨h0, h1⟩, h2⟩, h3⟩, h4⟩, h5⟩, h6⟩, h7⟩, hcold⟩ := h
        exact sx_comp g (g.tab.cold_tb hcold) h0 (blkOk_by h1) h2 h3 h4 (sI it g' it' g h5) (fun s H C cl fp => sA cs cs' (gd_blk g (g.tab.cold_tb hcold) s H scope cl C fp) h6) (fun s H C cl fp => sx e1 e' (gd_blk g (g.tab.cold_tb hcold) s H scope cl C fp) h7)
    | _ => exact absurd h Bool.false_ne_true
  | .disp _ _ _, Y, sc, own, W, e, g, h => by
    exact absurd h Bool.false_ne_true
  | .clk f pm es, Y, sc, own, W, e, g, h => by
    cases e with
    | Call fe es' kws pos =>
      match fe, es', h with
      | .Name x p0, [], h =>
        have h : (decide (tb.fn[f]? = some x) && glB sc x && okName x && decide ((f, kwNames kws, pm) ∈ tb.kb) && chkK tb N sc es kws) = true := h
        simp only [Bool.and_eq_true,
                decide_eq_true_eq] at h
        obtain ⟨⟨⟨⟨h1, h2⟩, h3⟩, h4⟩, h5⟩ := h
        obtain ⟨k1, k2⟩ := chkK_ok h5
        exact sx_clk g h1 h2 h3 h4 k1 k2 (sK es kws g h5)
    | _ => exact absurd h Bool.false_ne_true
  | .comp2 e1 g1 i1 g2 i2 own' cs, Y, sc, own, W, e, g, h => by
    cases e with
    | ListComp e' gens scope pos =>
      match gens, h with
      | [⟨g1', i1', [], 0⟩, ⟨g2', i2', cs', 0⟩], h =>
        have h : (noSet i1' && noSet i2' && blkC N sc scope (own'.filterMap fun i => (N[i]?).map fun x => (x, i)) && decide ((own'.filterMap fun i => (N[i]?).map fun x => (x, i)).map (·.2) = own') && chkG N scope g1 g1' && (gS g1).all (fun j => decide (j ∈ own')) && chkG N scope g2 g2' && (gS g2).all (fun j => decide (j ∈ own')) &&
          chkI tb N sc i1 g1' i1' && chkI tb N (relS scope sc) i2 g2' i2' && chkA tb N (relS scope sc) cs cs' && chk tb N (relS scope sc) e1 e' && !tb.hot) = true := h
        simp only [Bool.and_eq_true, decide_eq_true_eq, List.all_eq_true] at h
        obtain ⟨⟨⟨⟨⟨⟨⟨⟨⟨⟨⟨⟨h0, h00⟩, h1⟩, h2⟩, h3⟩, h4⟩, h5⟩, h6⟩, h7⟩, h8⟩, h9⟩, h10⟩, hcold⟩ := h
        exact sx_comp2 g (g.tab.cold_tb hcold) h0 h00 (blkOk_by h1) h2 h3 h4 h5 h6 (sI i1 g1' i1' g h7) (fun s H C cl fp => sI i2 g2' i2' (gd_blk g (g.tab.cold_tb hcold) s H scope cl C fp) h8) (fun s H C cl fp => sA cs cs' (gd_blk g (g.tab.cold_tb hcold) s H scope cl C fp) h9) (fun s H C cl fp => sx e1 e' (gd_blk g (g.tab.cold_tb hcold) s H scope cl C fp) h10)
    | _ => exact absurd h Bool.false_ne_true
  | .sp1 o m a, Y, sc, own, W, e, g, h => by
    unfold chk at h
    split at h
    · rename_i x p0 a' pos
      simp only [Bool.and_eq_true,
              decide_eq_true_eq] at h
      obtain ⟨⟨⟨⟨⟨⟨⟨rfl, h1⟩, h2⟩, h3⟩, h4⟩, h5⟩, h6⟩, h7⟩ := h
      exact sx_sp1 g (g.tab.cold_tb h7) o h2 h3 h4 h5 h1 (sx a a' g h6)
    · exact absurd h Bool.false_ne_true
  | .eqO n m a b, Y, sc, own, W, e, g, h => by
    unfold chk at h
    split at h
    · rename_i a' op' b' pos
      simp only [Bool.and_eq_true,
              decide_eq_true_eq] at h
      obtain ⟨⟨⟨⟨⟨rfl, h1⟩, h2⟩, h3⟩, h4⟩, h5⟩ := h
      exact sx_eqO g (g.tab.cold_tb h5) n h1 h2 (sx a a' g h3) (sx b b' g h4)
    · exact absurd h Bool.false_ne_true
  | .eqL n m a b, Y, sc, own, W, e, g, h => by
    unfold chk at h
    split at h
    · rename_i a' op' b' pos
      simp only [Bool.and_eq_true,
              decide_eq_true_eq] at h
      obtain ⟨⟨⟨⟨⟨rfl, h1⟩, h2⟩, h3⟩, h4⟩, h5⟩ := h
      exact sx_eqL g (g.tab.cold_tb h5) n h1 h2 (sx a a' g h3) (sx b b' g h4)
    · exact absurd h Bool.false_ne_true
  | .trO _ _, Y, sc, own, W, e, g, h => by
    unfold chk at h
    exact absurd h Bool.false_ne_true
  | .mkk c pm es, Y, sc, own, W, e, g, h => by
    unfold chk at h
    split at h
    · rename_i x p0 kws pos
      simp only [Bool.and_eq_true,
              decide_eq_true_eq] at h
      obtain ⟨⟨⟨⟨⟨h1, h2⟩, h3⟩, h4⟩, h5⟩, h6⟩ := h
      obtain ⟨k1, k2⟩ := chkK_ok h6
      exact sx_mkk g h1 h2 h3 (g.tab.mks c h4) h5 k1 k2 (sK es kws g h6)
    · exact absurd h Bool.false_ne_true
  | .omk m f pm o es, Y, sc, own, W, e, g, h => by
    unfold chk at h
    split at h
    · rename_i o' x apos kws pos
      simp only [Bool.and_eq_true,
              decide_eq_true_eq] at h
      obtain ⟨⟨⟨⟨⟨⟨h1, h2⟩, h3⟩,
              h4⟩, h5⟩, h6⟩, h7⟩ := h
      obtain ⟨k1, k2⟩ := chkK_ok h7
      exact sx_omk g h1 h2 (by rw [h3]; simp) h4 h5 k1 k2 (sx o o' g h6) (sK es kws g h7)
    · exact absurd h Bool.false_ne_true
  | .fs es, Y, sc, own, W, e, g, h => by
    unfold chk at h
    split at h
    · rename_i v1 v2 r pos
      exact sx_fs (sJ es _ g h)
    · exact absurd h Bool.false_ne_true
  | .fm a, Y, sc, own, W, e, g, h => by
    unfold chk at h
    split at h
    · rename_i e' k' pos
      rw [Bool.and_eq_true,
              decide_eq_true_eq] at h
      obtain ⟨rfl, h⟩ := h
      exact sx_fm (sx a e' g h)
    · exact absurd h Bool.false_ne_true
  | .isE a b, Y, sc, own, W, e, g, h => by
    unfold chk at h
    split at h
    · rename_i x p0 a' b' pos
      simp only [Bool.and_eq_true,
              decide_eq_true_eq] at h
      obtain ⟨⟨⟨⟨⟨⟨⟨rfl, h1⟩, h2⟩, h3⟩, h4⟩, h5⟩, h6⟩, h7⟩ := h
      exact sx_isE g h1 h2 h3 h4 h5 (sx a a' g h6) (sx b b' g h7)
    · exact absurd h Bool.false_ne_true
  | .fldE a f, Y, sc, own, W, e, g, h => by
    unfold chk at h
    split at h
    · rename_i a' x pos
      simp only [Bool.and_eq_true,
              decide_eq_true_eq] at h
      obtain ⟨⟨rfl, h1⟩, h2⟩ := h
      exact sx_fldE g h1 (sx a a' g h2)
    · exact absurd h Bool.false_ne_true
  | .minK q a i, Y, sc, own, W, e, g, h => by
    unfold chk at h
    split at h
    · rename_i x p0 a' y params body scope lpos kpos pos
      simp only [Bool.and_eq_true,
              decide_eq_true_eq] at h
      obtain ⟨⟨⟨⟨⟨⟨⟨⟨rfl, rfl⟩, h1⟩, h2⟩, h3⟩, h4⟩, h5⟩, h6⟩, h7⟩ := h
      exact sx_minK g h1 h2 h3 h4 h5 h6 (sx a a' g h7)
    · exact absurd h Bool.false_ne_true
  | .dmk kk a, Y, sc, own, W, e, g, h => by
    cases e with
    | Call fe es' kws pos =>
      match fe, es', kws, h with
      | .Name x p0, [a'], [], h =>
        have h : (decide (x = "dict") && glB sc x && okName x && decide (x ∈ tb.free) && noStar a' && chk tb N sc a a') = true := h
        simp only [Bool.and_eq_true,
                decide_eq_true_eq] at h
        obtain ⟨⟨⟨⟨⟨rfl, h1⟩, h2⟩, h3⟩, h4⟩, h5⟩ := h
        exact sx_dmk g h1 h2 h3 h4 (sx a a' g h5)
    | _ => exact absurd h Bool.false_ne_true
  | .dcomp kk ek e1 gg it own' cs, Y, sc, own, W, e, g, h => by
    cases e with
    | DictComp k' e' gens scope pos =>
      match gens, h with
      | [⟨g', it', cs', 0⟩], h =>
        have h : (noSet it' && blkC N sc scope (own'.filterMap fun i => (N[i]?).map fun x => (x, i)) && decide ((own'.filterMap fun i => (N[i]?).map fun x => (x, i)).map (·.2) = own') && chkG N scope gg g' && (gS gg).all (fun j => decide (j ∈ own')) && chkI tb N sc it g' it' && chkA tb N (relS scope sc) cs cs' && chk tb N (relS scope sc) ek k' && chk tb N (relS scope sc) e1 e' && !tb.hot) = true := h
        simp only [Bool.and_eq_true, decide_eq_true_eq, List.all_eq_true] at h
        obtain ⟨⟨⟨⟨⟨⟨⟨⟨⟨h0, h1⟩, h2⟩, h3⟩, h4⟩, h5⟩, h6⟩, h7⟩, h8⟩, hcold⟩ := h
        exact sx_dcomp g (g.tab.cold_tb hcold) h0 (blkOk_by h1) h2 h3 h4 (sI it g' it' g h5) (fun s H C cl fp => sA cs cs' (gd_blk g (g.tab.cold_tb hcold) s H scope cl C fp) h6) (fun s H C cl fp => sx ek k' (gd_blk g (g.tab.cold_tb hcold) s H scope cl C fp) h7) (fun s H C cl fp => sx e1 e' (gd_blk g (g.tab.cold_tb hcold) s H scope cl C fp) h8)
    | _ => exact absurd h Bool.false_ne_true
  | .rng1 _, Y, sc, own, W, e, g, h => by
    exact absurd h Bool.false_ne_true
  | .rng2 _ _, Y, sc, own, W, e, g, h => by
    exact absurd h Bool.false_ne_true
  | .enum _, Y, sc, own, W, e, g, h => by
    exact absurd h Bool.false_ne_true
  | .zip _ _, Y, sc, own, W, e, g, h => by
    exact absurd h Bool.false_ne_true
  | .tr _, Y, sc, own, W, e, g, h => by
    exact absurd h Bool.false_ne_true
  | .it _, Y, sc, own, W, e, g, h => by
    exact absurd h Bool.false_ne_true
theorem sxs : ∀ (c : Xs) {Y : Cx} {sc own : Scope} {W : WX} (es : List Expr), Gd w pg tb F Y N sc own W k → chks tb N sc c es = true → PA Y es (tXs w pg F c W)
  | .nil, Y, sc, own, W, es, g, h => by
    cases es with
    | nil => exact sxs_nil
    | cons e es => exact absurd h Bool.false_ne_true
  | .cons a r, Y, sc, own, W, es, g, h => by
    cases es with
    | nil => exact absurd h Bool.false_ne_true
    | cons e es =>
      have h : (noStar e && chk tb N sc a e && chks tb N sc r es) = true := h
      simp only [Bool.and_eq_true]
              at h
      exact sxs_cons h.1.1 (sx a e g h.1.2) (sxs r es g h.2)
theorem sJ : ∀ (c : Xs) {Y : Cx} {sc own : Scope} {W : WX} (es : List Expr), Gd w pg tb F Y N sc own W k → chkJ tb N sc c es = true → JsOk Y w pg F W c es
  | .nil, Y, sc, own, W, es, g, h => by
    cases es with
    | nil => exact js_nil
    | cons e es => exact absurd h Bool.false_ne_true
  | .cons a r, Y, sc, own, W, es, g, h => by
    cases es with
    | nil => exact absurd h Bool.false_ne_true
    | cons e es =>
      have h : (chk tb N sc a e && chkJ tb N sc r es) = true := h
      rw [Bool.and_eq_true] at h
      exact js_cons (sx a e g h.1) (sJ r es g h.2)
theorem sK : ∀ (c : Xs) {Y : Cx} {sc own : Scope} {W : WX} (ks : List Keyword), Gd w pg tb F Y N sc own W k → chkK tb N sc c ks = true → PK Y ks (tXs w pg F c W)
  | .nil, Y, sc, own, W, ks, g, h => by
    cases ks with
    | nil => exact sk_nil
    | cons e es => exact absurd h Bool.false_ne_true
  | .cons a r, Y, sc, own, W, ks, g, h => by
    cases ks with
    | nil => exact absurd h Bool.false_ne_true
    | cons e es =>
      obtain ⟨n, e, kp⟩ := e
      have h : (n.isSome && chk tb N sc a e && chkK tb N sc r es) = true := h
      simp only [Bool.and_eq_true]
              at h
      exact sk_cons (sx a e g h.1.2) (sK r es g h.2)
theorem sO : ∀ (c : Xs) {Y : Cx} {sc own : Scope} {W : WX} (e : Option Expr), Gd w pg tb F Y N sc own W k → chkO tb N sc c e = true → PO Y e (tXO w pg F c W)
  | .nil, Y, sc, own, W, e, g, h => by
    cases e with
    | none => exact so_none
    | some e => exact absurd h Bool.false_ne_true
  | .cons a .nil, Y, sc, own, W, e, g, h => by
    cases e with
    | none =>
            exact absurd h Bool.false_ne_true
    | some e => exact so_some (sx a e g h)
  | .cons _ (.cons _ _), Y, sc, own, W, e, g, h => by cases e <;> exact absurd h Bool.false_ne_true
theorem sA : ∀ (c : Xs) {Y : Cx} {sc own : Scope} {W : WX} (es : List Expr), Gd w pg tb F Y N sc own W k → chkA tb N sc c es = true → PTs Y es (tXA w pg F c W)
  | .nil, Y, sc, own, W, es, g, h => by
    cases es with
    | nil => exact sa_nil
    | cons e es => exact absurd h Bool.false_ne_true
  | .cons a .nil, Y, sc, own, W, es, g, h => by
    match es, h with
    | [e], h => exact sa_one (sT a e g h).1
  | .cons _ (.cons _ _), Y, sc, own, W, es, g, h => by
    match es, h with
    | [], h => exact absurd h Bool.false_ne_true
    | [_], h => exact absurd h Bool.false_ne_true
    | _ :: _ :: _, h => exact absurd h Bool.false_ne_true
theorem sT : ∀ (c : Mu.X) {Y : Cx} {sc own : Scope} {W : WX} (e : Expr), Gd w pg tb F Y N sc own W k → chkT tb N sc c e = true → PT Y e (tXT w pg F c W) ∧ (boolE e = true → PW Y e (tXT w pg F c W))
  | .and2 a b, Y, sc, own, W, e, g, h => by
    cases e with
    | BoolOp op es pos =>
      match op, es, h with
      | .And, a' :: b' :: r, h =>
        have h : (chkT tb N sc a a' && chkT tb N sc b (.BoolOp .And (b' :: r) pos)) = true := h
        rw [Bool.and_eq_true] at h
        have q := st_and (sT a a' g h.1).1 ((sT b _ g h.2).2 rfl)
        exact ⟨q.pt, fun _ => q⟩
    | _ => exact absurd h Bool.false_ne_true
  | .or2 a b, Y, sc, own, W, e, g, h => by
    cases e with
    | BoolOp op es pos =>
      match op, es, h with
      | .Or, a' :: b' :: r, h =>
        have h : (chkT tb N sc a a' && chkT tb N sc b (.BoolOp .Or (b' :: r) pos)) = true := h
        rw [Bool.and_eq_true] at h
        have q := st_or (sT a a' g h.1).1 ((sT b _ g h.2).2 rfl)
        exact ⟨q.pt, fun _ => q⟩
    | _ => exact absurd h Bool.false_ne_true
  | .one a, Y, sc, own, W, e, g, h => by
    cases e with
    | BoolOp op es pos =>
      match op, es, h with
      | .And, [a'], h =>
        have q : PW Y (.BoolOp .And [a'] pos) (tXT w pg F (.one a) W) := PW.imp (pw_and1 (sT a a' g h).1) fun σ H Q q => q
        exact ⟨q.pt, fun _ => q⟩
      | .Or, [a'], h =>
        have q : PW Y (.BoolOp .Or [a'] pos) (tXT w pg F (.one a) W) := PW.imp (pw_or1 (sT a a' g h).1) fun σ H Q q => q
        exact ⟨q.pt, fun _ => q⟩
    | _ => exact absurd h Bool.false_ne_true
  | .not1 a, Y, sc, own, W, e, g, h => by
    cases e with
    | UnaryOp op a' pos =>
      match op, h with
      | .Not, h => exact ⟨st_not (sT a a' g h).1, fun z => absurd z Bool.false_ne_true⟩
    | _ => exact absurd h Bool.false_ne_true
  | .cmp op a b, Y, sc, own, W, e, g, h => by
    cases e with
    | Compare a' ops bs pos =>
      match ops, bs, h with
      | [op'], [b'], h =>
        have h : (decide (op = op') && noSet b' && chk tb N sc a a' && chk tb N sc b b') = true := h
        simp only [Bool.and_eq_true,
                decide_eq_true_eq] at h
        obtain ⟨⟨⟨rfl, h0⟩, h1⟩, h2⟩ := h
        exact ⟨st_cmp g op h0 (sx a a' g h1) (sx b b' g h2), fun z => absurd z Bool.false_ne_true⟩
    | _ => exact absurd h Bool.false_ne_true
  | .chn o p a b c, Y, sc, own, W, e, g, h => by
    cases e with
    | Compare a' ops bs pos =>
      match ops, bs, h with
      | [o', p'], [b', c'], h =>
        have h : (decide (o = o') && decide (p = p') && noSet b' && noSet c' && chk tb N sc a a' && chk tb N sc b b' && chk tb N sc c c') = true := h
        simp only [Bool.and_eq_true,
                decide_eq_true_eq] at h
        obtain ⟨⟨⟨⟨⟨⟨rfl, rfl⟩, h1⟩, h2⟩, h3⟩, h4⟩, h5⟩ := h
        exact ⟨st_chn g o p h1 h2 (sx a a' g h3) (sx b b' g h4) (sx c c' g h5), fun z => absurd z Bool.false_ne_true⟩
    | _ => exact absurd h Bool.false_ne_true
  | .tr a, Y, sc, own, W, e, g, h => by
    have h : (plainT e && chk tb N sc a e) = true := h
    rw [Bool.and_eq_true] at h
    exact ⟨st_tr g h.1 (sx a e g h.2), fun z => by rw [plain_bool h.1] at z; cases z⟩
  | .trO m a, Y, sc, own, W, e, g, h => by
    have h : (plainT e && decide (tb.name m = Str.ofString "__len__") && chk tb N sc a e && !tb.hot) = true := h
    rw [Bool.and_eq_true, Bool.and_eq_true, Bool.and_eq_true, decide_eq_true_eq] at h
    exact ⟨st_trO g (g.tab.cold_tb h.2) h.1.1.1 h.1.1.2 (sx a e g h.1.2), fun z => by rw [plain_bool h.1.1.1] at z; cases z⟩
  | .eqO n m a b, Y, sc, own, W, e, g, h => by
    unfold chkT at h
    split at h
    · rename_i a' op' b' pos
      simp only [Bool.and_eq_true,
              decide_eq_true_eq] at h
      obtain ⟨⟨⟨⟨⟨rfl, h1⟩, h2⟩, h3⟩, h4⟩, h5⟩ := h
      exact ⟨st_eqO g (g.tab.cold_tb h5) n h1 h2 (sx a a' g h3) (sx b b' g h4), nofun⟩
    · exact absurd h Bool.false_ne_true
  | .eqL n m a b, Y, sc, own, W, e, g, h => by
    unfold chkT at h
    split at h
    · rename_i a' op' b' pos
      simp only [Bool.and_eq_true,
              decide_eq_true_eq] at h
      obtain ⟨⟨⟨⟨⟨rfl, h1⟩, h2⟩, h3⟩, h4⟩, h5⟩ := h
      exact ⟨st_eqL g (g.tab.cold_tb h5) n h1 h2 (sx a a' g h3) (sx b b' g h4), nofun⟩
    · exact absurd h Bool.false_ne_true
  | .sp1 _ _ _, Y, sc, own, W, e, g, h => by
    exact absurd h Bool.false_ne_true
  | .mkk _ _ _, Y, sc, own, W, e, g, h => by
    exact absurd h Bool.false_ne_true
  | .omk _ _ _ _ _, Y, sc, own, W, e, g, h => by
    exact absurd h Bool.false_ne_true
  | .fs _, Y, sc, own, W, e, g, h => by
    exact absurd h Bool.false_ne_true
  | .fm _, Y, sc, own, W, e, g, h => by
    exact absurd h Bool.false_ne_true
  | .v _, Y, sc, own, W, e, g, h => by
    exact absurd h Bool.false_ne_true
  | .c _, Y, sc, own, W, e, g, h => by
    exact absurd h Bool.false_ne_true
  | .gl _, Y, sc, own, W, e, g, h => by
    exact absurd h Bool.false_ne_true
  | .gc _ _, Y, sc, own, W, e, g, h => by
    exact absurd h Bool.false_ne_true
  | .bty _ _, Y, sc, own, W, e, g, h => by
    exact absurd h Bool.false_ne_true
  | .bin _ _ _, Y, sc, own, W, e, g, h => by
    exact absurd h Bool.false_ne_true
  | .neg _, Y, sc, own, W, e, g, h => by
    exact absurd h Bool.false_ne_true
  | .ite _ _ _, Y, sc, own, W, e, g, h => by
    exact absurd h Bool.false_ne_true
  | .tup _, Y, sc, own, W, e, g, h => by
    exact absurd h Bool.false_ne_true
  | .lst _ _, Y, sc, own, W, e, g, h => by
    exact absurd h Bool.false_ne_true
  | .dnew _, Y, sc, own, W, e, g, h => by
    exact absurd h Bool.false_ne_true
  | .disp _ _ _, Y, sc, own, W, e, g, h => by
    exact absurd h Bool.false_ne_true
  | .cl _ _, Y, sc, own, W, e, g, h => by
    exact absurd h Bool.false_ne_true
  | .clk _ _ _, Y, sc, own, W, e, g, h => by
    exact absurd h Bool.false_ne_true
  | .bl _ _, Y, sc, own, W, e, g, h => by
    exact absurd h Bool.false_ne_true
  | .mt _ _ _, Y, sc, own, W, e, g, h => by
    exact absurd h Bool.false_ne_true
  | .om _ _ _, Y, sc, own, W, e, g, h => by
    exact absurd h Bool.false_ne_true
  | .mk _ _, Y, sc, own, W, e, g, h => by
    exact absurd h Bool.false_ne_true
  | .ix _ _, Y, sc, own, W, e, g, h => by
    exact absurd h Bool.false_ne_true
  | .sl _ _ _, Y, sc, own, W, e, g, h => by
    exact absurd h Bool.false_ne_true
  | .fld _ _, Y, sc, own, W, e, g, h => by
    exact absurd h Bool.false_ne_true
  | .comp _ _ _ _ _ _, Y, sc, own, W, e, g, h => by
    exact absurd h Bool.false_ne_true
  | .comp2 _ _ _ _ _ _ _, Y, sc, own, W, e, g, h => by
    exact absurd h Bool.false_ne_true
  | .dmk _ _, Y, sc, own, W, e, g, h => by
    exact absurd h Bool.false_ne_true
  | .minK _ _ _, Y, sc, own, W, e, g, h => by
    exact absurd h Bool.false_ne_true
  | .isE _ _, Y, sc, own, W, e, g, h => by
    exact absurd h Bool.false_ne_true
  | .fldE _ _, Y, sc, own, W, e, g, h => by
    exact absurd h Bool.false_ne_true
  | .dcomp _ _ _ _ _ _ _, Y, sc, own, W, e, g, h => by
    exact absurd h Bool.false_ne_true
  | .rng1 _, Y, sc, own, W, e, g, h => by
    exact absurd h Bool.false_ne_true
  | .rng2 _ _, Y, sc, own, W, e, g, h => by
    exact absurd h Bool.false_ne_true
  | .enum _, Y, sc, own, W, e, g, h => by
    exact absurd h Bool.false_ne_true
  | .zip _ _, Y, sc, own, W, e, g, h => by
    exact absurd h Bool.false_ne_true
  | .it _, Y, sc, own, W, e, g, h => by
    exact absurd h Bool.false_ne_true
theorem sI : ∀ (c : Mu.X) {Y : Cx} {sc own : Scope} {W : WX} (tg e : Expr), Gd w pg tb F Y N sc own W k → chkI tb N sc c tg e = true → PI Y tg e (iX w pg F c W)
  | .rng1 a, Y, sc, own, W, tg, e, g, h => by
    cases e with
    | Call fe es' kws pos =>
      match fe, es', kws, h with
      | .Name x p0, [a'], [], h =>
        have h : (decide (x = "range") && glB sc x && decide (x ∈ tb.free) && noStar a' && chk tb N sc a a') = true := h
        simp only [Bool.and_eq_true,
                decide_eq_true_eq] at h
        obtain ⟨⟨⟨⟨rfl, h1⟩, h2⟩, h3⟩, h4⟩ := h
        exact si_rng1 g h1 h2 h3 (sx a a' g h4)
    | _ => exact absurd h Bool.false_ne_true
  | .rng2 a b, Y, sc, own, W, tg, e, g, h => by
    cases e with
    | Call fe es' kws pos =>
      match fe, es', kws, h with
      | .Name x p0, [a', b'], [], h =>
        have h : (decide (x = "range") && glB sc x && decide (x ∈ tb.free) && noStar a' && noStar b' && chk tb N sc a a' && chk tb N sc b b') = true := h
        simp only [Bool.and_eq_true,
                decide_eq_true_eq] at h
        obtain ⟨⟨⟨⟨⟨⟨rfl, h1⟩, h2⟩, h3⟩, h4⟩, h5⟩, h6⟩ := h
        exact si_rng2 g h1 h2 h3 h4 (sx a a' g h5) (sx b b' g h6)
    | _ => exact absurd h Bool.false_ne_true
  | .enum a, Y, sc, own, W, tg, e, g, h => by
    have h : (tupE tg && _) = true := h
    rw [Bool.and_eq_true] at h
    obtain ⟨h0, h⟩ := h
    cases tg with
    | Tuple elts kk tpos =>
      cases e with
      | Call fe es' kws pos =>
        match fe, es', kws, h with
        | .Name x p0, [a'], [], h =>
          have h : (decide (x = "enumerate") && glB sc x && decide (x ∈ tb.free) && noStar a' && chk tb N sc a a') = true := h
          simp only [Bool.and_eq_true,
                  decide_eq_true_eq] at h
          obtain ⟨⟨⟨⟨rfl, h1⟩, h2⟩, h3⟩, h4⟩ := h
          exact si_enum g h1 h2 h3 (sx a a' g h4)
      | _ => exact absurd h Bool.false_ne_true
    | _ => exact absurd h0 Bool.false_ne_true
  | .zip a b, Y, sc, own, W, tg, e, g, h => by
    have h : (tupE tg && _) = true := h
    rw [Bool.and_eq_true] at h
    obtain ⟨h0, h⟩ := h
    cases tg with
    | Tuple elts kk tpos =>
      cases e with
      | Call fe es' kws pos =>
        match fe, es', kws, h with
        | .Name x p0, [a', b'], [], h =>
          have h : (decide (x = "zip") && glB sc x && decide (x ∈ tb.free) && noStar a' && noStar b' && chk tb N sc a a' && chk tb N sc b b') = true := h
          simp only [Bool.and_eq_true,
                  decide_eq_true_eq] at h
          obtain ⟨⟨⟨⟨⟨⟨rfl, h1⟩, h2⟩, h3⟩, h4⟩, h5⟩, h6⟩ := h
          exact si_zip g h1 h2 h3 h4 (sx a a' g h5) (sx b b' g h6)
      | _ => exact absurd h Bool.false_ne_true
    | _ => exact absurd h0 Bool.false_ne_true
  | .it a, Y, sc, own, W, tg, e, g, h => si_it g (sx a e g h)
  | .v _, Y, sc, own, W, tg, e, g, h => by
    exact absurd h Bool.false_ne_true
  | .c _, Y, sc, own, W, tg, e, g, h => by
    exact absurd h Bool.false_ne_true
  | .gl _, Y, sc, own, W, tg, e, g, h => by
    exact absurd h Bool.false_ne_true
  | .gc _ _, Y, sc, own, W, tg, e, g, h => by
    exact absurd h Bool.false_ne_true
  | .bty _ _, Y, sc, own, W, tg, e, g, h => by
    exact absurd h Bool.false_ne_true
  | .bin _ _ _, Y, sc, own, W, tg, e, g, h => by
    exact absurd h Bool.false_ne_true
  | .cmp _ _ _, Y, sc, own, W, tg, e, g, h => by
    exact absurd h Bool.false_ne_true
  | .chn _ _ _ _ _, Y, sc, own, W, tg, e, g, h => by
    exact absurd h Bool.false_ne_true
  | .and2 _ _, Y, sc, own, W, tg, e, g, h => by
    exact absurd h Bool.false_ne_true
  | .or2 _ _, Y, sc, own, W, tg, e, g, h => by
    exact absurd h Bool.false_ne_true
  | .one _, Y, sc, own, W, tg, e, g, h => by
    exact absurd h Bool.false_ne_true
  | .not1 _, Y, sc, own, W, tg, e, g, h => by
    exact absurd h Bool.false_ne_true
  | .neg _, Y, sc, own, W, tg, e, g, h => by
    exact absurd h Bool.false_ne_true
  | .ite _ _ _, Y, sc, own, W, tg, e, g, h => by
    exact absurd h Bool.false_ne_true
  | .tup _, Y, sc, own, W, tg, e, g, h => by
    exact absurd h Bool.false_ne_true
  | .lst _ _, Y, sc, own, W, tg, e, g, h => by
    exact absurd h Bool.false_ne_true
  | .dnew _, Y, sc, own, W, tg, e, g, h => by
    exact absurd h Bool.false_ne_true
  | .disp _ _ _, Y, sc, own, W, tg, e, g, h => by
    exact absurd h Bool.false_ne_true
  | .cl _ _, Y, sc, own, W, tg, e, g, h => by
    exact absurd h Bool.false_ne_true
  | .clk _ _ _, Y, sc, own, W, tg, e, g, h => by
    exact absurd h Bool.false_ne_true
  | .bl _ _, Y, sc, own, W, tg, e, g, h => by
    exact absurd h Bool.false_ne_true
  | .mt _ _ _, Y, sc, own, W, tg, e, g, h => by
    exact absurd h Bool.false_ne_true
  | .om _ _ _, Y, sc, own, W, tg, e, g, h => by
    exact absurd h Bool.false_ne_true
  | .mk _ _, Y, sc, own, W, tg, e, g, h => by
    exact absurd h Bool.false_ne_true
  | .ix _ _, Y, sc, own, W, tg, e, g, h => by
    exact absurd h Bool.false_ne_true
  | .sl _ _ _, Y, sc, own, W, tg, e, g, h => by
    exact absurd h Bool.false_ne_true
  | .fld _ _, Y, sc, own, W, tg, e, g, h => by
    exact absurd h Bool.false_ne_true
  | .comp _ _ _ _ _ _, Y, sc, own, W, tg, e, g, h => by
    exact absurd h Bool.false_ne_true
  | .comp2 _ _ _ _ _ _ _, Y, sc, own, W, tg, e, g, h => by
    exact absurd h Bool.false_ne_true
  | .dmk _ _, Y, sc, own, W, tg, e, g, h => by
    exact absurd h Bool.false_ne_true
  | .minK _ _ _, Y, sc, own, W, tg, e, g, h => by
    exact absurd h Bool.false_ne_true
  | .isE _ _, Y, sc, own, W, tg, e, g, h => by
    exact absurd h Bool.false_ne_true
  | .fldE _ _, Y, sc, own, W, tg, e, g, h => by
    exact absurd h Bool.false_ne_true
  | .dcomp _ _ _ _ _ _ _, Y, sc, own, W, tg, e, g, h => by
    exact absurd h Bool.false_ne_true
  | .sp1 _ _ _, Y, sc, own, W, tg, e, g, h => by
    exact absurd h Bool.false_ne_true
  | .eqO _ _ _ _, Y, sc, own, W, tg, e, g, h => by
    exact absurd h Bool.false_ne_true
  | .eqL _ _ _ _, Y, sc, own, W, tg, e, g, h => by
    exact absurd h Bool.false_ne_true
  | .trO _ _, Y, sc, own, W, tg, e, g, h => by
    exact absurd h Bool.false_ne_true
  | .mkk _ _ _, Y, sc, own, W, tg, e, g, h => by
    exact absurd h Bool.false_ne_true
  | .omk _ _ _ _ _, Y, sc, own, W, tg, e, g, h => by
    exact absurd h Bool.false_ne_true
  | .fs _, Y, sc, own, W, tg, e, g, h => by
    exact absurd h Bool.false_ne_true
  | .fm _, Y, sc, own, W, tg, e, g, h => by
    exact absurd h Bool.false_ne_true
  | .tr _, Y, sc, own, W, tg, e, g, h => by
    exact absurd h Bool.false_ne_true
end
end
end Mu
end
section
set_option Elab.async false
set_option linter.all false
set_option maxRecDepth 100000
set_option maxHeartbeats 4000010
/-! Mu, part 13: statements: what they come to, the checker, the soundness. -/
namespace Mu
open PySem
open PySem.Spec
open PyProof.Rows
open L2

/-! ### the evaluator -/
def R.toS {α : Type} : R α → Env → (α → Sto → RS) → RS
  | .ok x st, _, k => k x st
  | .exc c ts st, env, _ => .exc c ts env st
  | .bad, _, _ => .bad
def setS (i : Nat) (t : T) (env : Env) (st : Sto) : RS := if i < env.length then .nx (env.set i (some t)) st else .bad
def getS (i : Nat) (env : Env) : Option T := (env[i]?).bind id
/-- o[i] = v -/
def putT (st : Sto) : T → T → T → Option Sto
  | .cell n, y, v => match cellO st n with
    | some (.lst ts) => match y with
      | .int k => if 0 ≤ k ∧ k < ts.length then some (putO st n (.lst (ts.set k.toNat v))) else none
      | _ => none
    | some (.dic ks ts) => match keyT y with
      | some ky => if ks.length < big then some (putO st n (.dic (putKy ky v ks ts).1 (putKy ky v ks ts).2)) else none
      | none => none
    | _ => none
  | _, _, _ => none
/-- o.f = v -/
def putFV (f : Nat) (v : T) : List Nat → List T → List Nat × List T
  | g :: fs, t :: ts => if g = f then (g :: fs, v :: ts) else (g :: (putFV f v fs ts).1, t :: (putFV f v fs ts).2)
  | _, _ => ([f], [v])
def fputT (pg : Pg) (st : Sto) : T → Nat → T → Option Sto
  | .cell n, f, v => match cellO st n with
    | some (.ins c fs ts) => match pg.cls c with
      | some cl => if f ∈ cl.fs ∧ (∀ g ∈ fs, g ∈ cl.fs) ∧ fs.length < 1000 then some (putO st n (.ins c (putFV f v fs ts).1 (putFV f v fs ts).2)) else none
      | none => none
    | _ => none
  | _, _, _ => none
def exFor (g : G) (body : Env → Sto → RS) : List T → Env → Sto → RS
  | [], env, st => .nx env st
  | t :: ts, env, st => match bindG g t env with
    | none => .bad
    | some e => match body e st with
      | .nx e' st' => exFor g body ts e' st'
      | .ct e' st' => exFor g body ts e' st'
      | .bk e' st' => .nx e' st'
      | .rt t st' => .rt t st'
      | .exc c us e' st' => .exc c us e' st'
      | .bad => .bad
def exWhl (cond : Env → Sto → R Bool) (body : Env → Sto → RS) : Nat → Env → Sto → RS
  | 0, _, _ => .bad
  | n + 1, env, st => (cond env st).toS env fun b st1 => if b then (match body env st1 with
      | .nx e' st' => exWhl cond body n e' st'
      | .ct e' st' => exWhl cond body n e' st'
      | .bk e' st' => .nx e' st'
      | .rt t st' => .rt t st'
      | .exc c us e' st' => .exc c us e' st'
      | .bad => .bad) else .nx env st1
section
variable (pg : Pg) (F : Nat → List T → Sto → R T)
mutual
def ex : S → Env → Sto → RS
  | .ex e, env, st => (ev pg F e env st).toS env fun _ st => .nx env st
  | .doc, env, st => .nx env st
  | .set i e, env, st => (ev pg F e env st).toS env fun t st => setS i t env st
  | .setC i e, env, st => (ev pg F e env st).toS env fun t st => setS i t env st
  | .asg g e, env, st => (ev pg F e env st).toS env fun t st => match bindG g t env with
    | some env' => .nx env' st
    | none => .bad
  | .par i j a b, env, st => (ev pg F a env st).toS env fun u st => (ev pg F b env st).toS env fun v st => if i < env.length ∧ j < env.length then .nx ((env.set i (some u)).set j (some v)) st else .bad
  | .sub o i j e, env, st => (ev pg F e env st).toS env fun t st => match t with
    | .tup [u, v] => (ev pg F o env st).toS env fun x st => (ev pg F i env st).toS env fun y st => match putT st x y u with
      | some st' => setS j v env st'
      | none => .bad
    | _ => .bad
  | .sub2 o i o2 i2 e, env, st => (ev pg F e env st).toS env fun t st => match t with
    | .tup [u, v] => (ev pg F o env st).toS env fun x st => (ev pg F i env st).toS env fun y st => match putT st x y u with
      | some st' => (ev pg F o2 env st').toS env fun x st => (ev pg F i2 env st).toS env fun y st => match putT st x y v with
        | some st' => .nx env st'
        | none => .bad
      | none => .bad
    | _ => .bad
  | .put o i e, env, st => (ev pg F e env st).toS env fun v st => (ev pg F o env st).toS env fun x st => (ev pg F i env st).toS env fun y st => match putT st x y v with
    | some st' => .nx env st'
    | none => .bad
  | .fput o f e, env, st => (ev pg F e env st).toS env fun v st => (ev pg F o env st).toS env fun x st => match fputT pg st x f v with
    | some st' => .nx env st'
    | none => .bad
  | .aug i op e, env, st => match op, getS i env with
    | .Add, some (.int a) => (ev pg F e env st).toS env fun y st => match y with
      | .int b => setS i (.int (a + b)) env st
      | _ => .bad
    | .Sub, some (.int a) => (ev pg F e env st).toS env fun y st => match y with
      | .int b => setS i (.int (a - b)) env st
      | _ => .bad
    | _, _ => .bad
  | .ret e, env, st => (ev pg F e env st).toS env fun t st => .rt t st
  | .retN, _, st => .rt .non st
  | .pass, env, st => .nx env st
  | .brk, env, st => .bk env st
  | .cnt, env, st => .ct env st
  | .ife c a b, env, st => (evT pg F c env st).toS env fun d st => if d then exs a env st else exs b env st
  | .forr g it b, env, st => (evI pg F it env st).toS env fun ts st => exFor g (fun env st => exs b env st) ts env st
  | .whl n c b, env, st => exWhl (fun env st => evT pg F c env st) (fun env st => exs b env st) n env st
  | .frz i, env, st => match getS i env with
    | some (.cell n) => match cellO st n with
      | some ob => if ob.nt then .nx (env.set i (some ob.pure)) (st.set n none) else .bad
      | none => .bad
    | _ => .bad
  | .never, _, _ => .bad
def exs : Ss → Env → Sto → RS
  | .nil, env, st => .nx env st
  | .cons a r, env, st => match ex a env st with
    | .nx e' st' => exs r e' st'
    | .rt t st' => .rt t st'
    | .bk e' st' => .bk e' st'
    | .ct e' st' => .ct e' st'
    | .exc c us e' st' => .exc c us e' st'
    | .bad => .bad
end
example (env : Env) (st : Sto) : ex pg F .pass env st = .nx env st := rfl
end
/-! ### the checker -/
def noComp : Expr → Bool
  | .ListComp _ _ _ _ => false
  | .SetComp _ _ _ _ => false
  | .DictComp _ _ _ _ _ => false
  | _ => true
def noSeq : Expr → Bool
  | .Tuple _ _ _ => false
  | .List _ _ => false
  | _ => true
def isCompX : Expr → Bool
  | .ListComp _ _ _ _ => true
  | _ => false
def locE (sc : Scope) : Expr → Bool
  | .Name x _ => decide (sc.names.lookup x = some .local)
  | _ => false
/-- no stores in another order: the value is no display, or not both targets are plain names of the frame -/
def swNo (sc : Scope) (t e : Expr) : Bool := noSeq e || (match t, e with
  | .Tuple [t1, t2] _ _, .Tuple [_, _] _ _ => !(locE sc t1 && locE sc t2)
  | _, _ => false)
section
variable (tb : Tab)
def chkC (N : List Str) (sc : Scope) (i : Nat) (e : X) (st : Stmt) : Bool := match st with
  | .Assign [.Name x py] (.ListComp e' gens scope pos) _ => decide (N[i]? = some x) && decide (sc.names.lookup x = some .local) && decide (py.line = pos.line) && !(scope.names.any fun p => decide (p.1 = x) && (p.2 == .local || p.2 == .cell)) && chk tb N sc e (.ListComp e' gens scope pos) && !tb.hot
  | _ => false
mutual
def chS (N : List Str) (sc : Scope) : S → Stmt → Bool
  | .ex e, st => match st with
    | .Expr e' _ => noComp e' && chk tb N sc e e'
    | _ => false
  | .doc, st => match st with
    | .Expr (.Constant (.str _) _ _) _ => true
    | _ => false
  | .set i e, st => match st with
    | .Assign [.Name x _] e' _ => decide (N[i]? = some x) && locB sc x && (noComp e' || decide (sc.names.lookup x = some .cell)) && chk tb N sc e e'
    | _ => false
  | .setC i e, st => chkC tb N sc i e st
  | .asg g e, st => match st with
    | .Assign [t] e' _ => chkG N sc g t && noComp e' && swNo sc t e' && chk tb N sc e e' && !tb.hot
    | _ => false
  | .sub o i j e, st => match st with
    | .Assign [.Tuple [.Subscript o' i' _, .Name x _] _ _] e' _ => decide (N[j]? = some x) && locB sc x && noSlice i' && noComp e' && noSeq e' && chk tb N sc o o' && chk tb N sc i i' && chk tb N sc e e' && !tb.hot
    | _ => false
  | .sub2 o i o2 i2 e, st => match st with
    | .Assign [.Tuple [.Subscript o' i' _, .Subscript o2' i2' _] _ _] e' _ => noSlice i' && noSlice i2' && noComp e' && chk tb N sc o o' && chk tb N sc i i' && chk tb N sc o2 o2' && chk tb N sc i2 i2' && chk tb N sc e e' && !tb.hot
    | _ => false
  | .put o i e, st => match st with
    | .Assign [.Subscript o' i' _] e' _ => noSlice i' && chk tb N sc o o' && chk tb N sc i i' && chk tb N sc e e'
    | _ => false
  | .aug i op e, st => match st with
    | .AugAssign (.Name x _) op' e' _ => decide (N[i]? = some x) && locB sc x && decide (op = op') && chk tb N sc e e'
    | _ => false
  | .ret e, st => match st with
    | .Return (some e') _ => chk tb N sc e e'
    | _ => false
  | .retN, st => match st with
    | .Return none _ => true
    | _ => false
  | .pass, st => match st with
    | .Pass _ => true
    | _ => false
  | .brk, st => match st with
    | .Break _ => true
    | _ => false
  | .cnt, st => match st with
    | .Continue _ => true
    | _ => false
  | .ife c a b, st => match st with
    | .If c' a' b' _ => chkT tb N sc c c' && chSs N sc a a' && chSs N sc b b'
    | _ => false
  | .forr g it b, st => match st with
    | .For t it' b' [] _ => noSet it' && chkG N sc g t && chkI tb N sc it t it' && chSs N sc b b' && !tb.hot
    | _ => false
  | .whl _ c b, st => match st with
    | .While c' b' [] _ => chkT tb N sc c c' && chSs N sc b b'
    | _ => false
  | .frz _, _ => false
  | .never, _ => true
  | .par i j a b, st => match st with
    | .Assign [.Tuple [.Name x px, .Name y py] _ _] (.Tuple [a', b'] _ _) _ => decide (N[i]? = some x) && decide (N[j]? = some y) && decide (i ≠ j) && decide (sc.names.lookup x = some .local) && decide (sc.names.lookup y = some .local) && decide (x ≠ y) && (py.line == px.line) &&
        noStar a' && noStar b' && !(foldedForSure 8 a' && foldedForSure 8 b') && !(constantsAlone 8 a' && constantsAlone 8 b') && chk tb N sc a a' && chk tb N sc b b' && !tb.hot
    | _ => false
  | .fput o f e, st => match st with
    | .Assign [.Attribute o' x _] e' _ => decide (tb.name f = x) && chk tb N sc o o' && chk tb N sc e e'
    | _ => false
/-- a block; frz stands for no row -/
def chSs (N : List Str) (sc : Scope) : Ss → List Stmt → Bool
  | .nil, sts => sts.isEmpty
  | .cons a r, sts => match a with
    | .frz _ => chSs N sc r sts
    | a => match sts with
      | s :: sts => chS N sc a s && chSs N sc r sts
      | [] => false
end
end
/-! ### the soundness -/
def PostS (w : Wd) (z : Z) (H : Hp) (r : RS) (D : Ends) (W : WX) : Prop :=
  match r with
  | .nx e st => ∀ z' H' σ', z'.st = st → Go z H z' H' → StRel w z' H' → EnvR w z' e σ' → D.nx σ' H'
  | .rt t st => ∀ z' H' v, z'.st = st → Go z H z' H' → StRel w z' H' → Rep w z'.as z'.hm t v → D.rt v H'
  | .bk e st => ∀ z' H' σ', z'.st = st → Go z H z' H' → StRel w z' H' → EnvR w z' e σ' → D.bk σ' H'
  | .ct e st => ∀ z' H' σ', z'.st = st → Go z H z' H' → StRel w z' H' → EnvR w z' e σ' → D.ct σ' H'
  | .exc c ts e st => ∀ z' H' σ' cls d, z'.st = st → Go z H z' H' → StRel w z' H' → EnvR w z' e σ' → RepX w z' c ts cls d H' → W cls d σ' H'
  | .bad => False
structure GdS (w : Wd) (pg : Pg) (tb : Tab) (F : Fn) (X : Cx) (N : List Str) (sc : Scope) (W : WX) (k : Nat) : Prop where
  g : Gd w pg tb F X N sc sc W k
  pass : PassesOwn (model X.prog X.w) X.A X.env X.xe
  kind : sc.kind = .function
section
variable {w : Wd} {pg : Pg} {tb : Tab} {F : Fn} {X : Cx} {N : List Str} {sc : Scope} {W : WX} {k : Nat}
def tS (w : Wd) (pg : Pg) (F : Fn) (c : S) (W : WX) : TS := fun D σ H => ∃ z env, StRel w z H ∧ EnvR w z env σ ∧ PostS w z H (ex pg F c env z.st) D W
def tSs (w : Wd) (pg : Pg) (F : Fn) (c : Ss) (W : WX) : TS := fun D σ H => ∃ z env, StRel w z H ∧ EnvR w z env σ ∧ PostS w z H (exs pg F c env z.st) D W
theorem PS.imp {e : Stmt} {t t' : TS} (h : PS X e t) (i : ∀ D σ H, t' D σ H → t D σ H) : PS X e t' := ⟨fun pins s σ H D I q => h.run pins s σ H D I (i D σ H q)⟩
theorem PSs.imp {e : List Stmt} {t t' : TS} (h : PSs X e t) (i : ∀ D σ H, t' D σ H → t D σ H) : PSs X e t' := ⟨fun pins s σ H D I q => h.run pins s σ H D I (i D σ H q)⟩
theorem PostS.go {z z1 : Z} {H H1 : Hp} {r : RS} {D : Ends} (p : PostS w z H r D W) (g : Go z H z1 H1) : PostS w z1 H1 r D W := by
  cases r with
  | nx e st => exact fun z' H' σ' e' g' s En => p z' H' σ' e' (g.trans g') s En
  | rt t st => exact fun z' H' v e' g' s r => p z' H' v e' (g.trans g') s r
  | bk e st => exact fun z' H' σ' e' g' s En => p z' H' σ' e' (g.trans g') s En
  | ct e st => exact fun z' H' σ' e' g' s En => p z' H' σ' e' (g.trans g') s En
  | exc c ts e st => exact fun z' H' σ' cls d e' g' s En r => p z' H' σ' cls d e' (g.trans g') s En r
  | bad => exact p
theorem PostS.bind {α β : Type} {rel : Z → α → β → Prop} {z : Z} {H : Hp} {σ : L2.St} {r : R α} {env : Env} {kk : α → Sto → RS} {D : Ends} (p : PostS w z H (r.toS env kk) D W) (En : EnvR w z env σ) :
    PostG rel w z H r (fun v H1 => ∃ z1 t, Go z H z1 H1 ∧ StRel w z1 H1 ∧ rel z1 t v ∧ PostS w z1 H1 (kk t z1.st) D W) (fun cls d H' => W cls d σ H') := by
  cases r with
  | ok t st =>
    intro z' H' v e g s r
    subst e
    exact ⟨z', t, g, s, r, PostS.go (r := kk t z'.st) p g⟩
  | exc c ts st => exact fun z' H' cls d e g s r => p z' H' σ cls d e g s (En.go g) r
  | bad => exact p
theorem PostS.here {z : Z} {H : Hp} {σ : L2.St} {env : Env} {D : Ends} (p : PostS w z H (.nx env z.st) D W) (s : StRel w z H) (En : EnvR w z env σ) : D.nx σ H := p z H σ rfl Go.refl s En
theorem set_post {z : Z} {H : Hp} {σ : L2.St} {env : Env} {D : Ends} {i : Nat} {t : T} {v : V} (p : PostS w z H (setS i t env z.st) D W) (s : StRel w z H) (En : EnvR w z env σ) (r : Rep w z.as z.hm t v) : D.nx (σ.set i (some v)) H := by
  unfold setS at p
  by_cases hl : i < env.length
  · rw [if_pos hl] at p
    exact PostS.here p s (En.set r)
  · rw [if_neg hl] at p
    exact p.elim
theorem sw_no {e : Expr} (h : noComp e = true) (tg : Option Expr) (l : Nat) (env : PySem.Env) : swapsWith e tg l env = pure false := by
  cases e <;> first | rfl | exact absurd h Bool.false_ne_true
variable {c : S} {pos : Pos}
theorem ss_ex (g : GdS w pg tb F X N sc W k) {e : Mu.X} {e' : Expr} (h : noComp e' = true) (he : PE X e' (tX w pg F e W)) : PS X (.Expr e' pos) (tS w pg F (.ex e) W) :=
  PS.imp (ps_expr he (sw_no h _ _ _)) fun D σ H ⟨z, env, S, En, p⟩ => ⟨z, env, S, En, (PostS.bind (rel := rT w) (r := ev pg F e env z.st) p En).imp fun x H1 ⟨z1, t, g1, s1, r1, p1⟩ => PostS.here p1 s1 (En.go g1)⟩
theorem ss_doc {x : Str} {j : Nat} {pos' : Pos} : PS X (.Expr (.Constant (.str x) j pos) pos') (tS w pg F .doc W) :=
  PS.imp ps_doc fun D σ H ⟨z, env, S, En, p⟩ => PostS.here p S En
theorem sw_cell {e : Expr} {x : Str} {p : Pos} (l : Nat) (env : PySem.Env) (h : env.scope.names.lookup x = some .cell) : swapsWith e (some (.Name x p)) l env = pure false := by
  have kx : env.kindOf x = some .cell := h
  have hc : (env.kindOf x == some NameKind.local) = false := by rw [kx]; rfl
  cases e <;> first | rfl | (unfold swapsWith; simp only [hc, Bool.and_false, Bool.false_and]; done) | (unfold swapsWith; simp only [hc, Bool.and_false, Bool.false_and]; rfl)
theorem ss_set (g : GdS w pg tb F X N sc W k) {e : Mu.X} {e' : Expr} {i : Nat} {x : Str} {p0 : Pos} (h1 : N[i]? = some x) (h2 : locB sc x = true) (h : (noComp e' || decide (sc.names.lookup x = some .cell)) = true) (he : PE X e' (tX w pg F e W)) : PS X (.Assign [.Name x p0] e' pos) (tS w pg F (.set i e) W) := by
  obtain ⟨l1, l2⟩ := loc_ok g.g h2
  have hsw : swapsWith e' (some (.Name x p0)) pos.line X.env = pure false := by
    rcases Bool.or_eq_true_iff.mp
            h with h | h
    · exact sw_no h _ _ _
    · exact sw_cell _ _ (by rw [g.g.hsc]; exact of_decide_eq_true h)
  exact PS.imp (ps_set (i := i) (by rw [g.g.hN]; exact g.g.nd) (by rw [g.g.hN]; exact h1) l1 he hsw l2) fun D σ H ⟨z, env, S, En, p⟩ =>
    ⟨z, env, S, En, (PostS.bind (rel := rT w) (r := ev pg F e env z.st) p En).imp fun x H1 ⟨z1, t, g1, s1, r1, p1⟩ => set_post p1 s1 (En.go g1) r1⟩
theorem sw_two {x y : Str} {px py pt pt2 : Pos} {kt k2} {a b : Expr} {env : PySem.Env} (hk : env.scope.kind = .function) (hx : env.scope.names.lookup x = some .local) (hy : env.scope.names.lookup y = some .local) (hl : (py.line == px.line) = true) (hne : x ≠ y)
    (ha : noStar a = true) (hb : noStar b = true) (hf : (foldedForSure 8 a && foldedForSure 8 b) = false) (hc : (constantsAlone 8 a && constantsAlone 8 b) = false) :
    swappedStores [.Tuple [.Name x px, .Name y py] kt pt] (.Tuple [a, b] k2 pt2) env = pure (some [x, y]) := by
  have kx : env.kindOf x = some .local := hx
  have ky : env.kindOf
          y = some .local := hy
  have hbk : env.blockKind = .function := by unfold Env.blockKind; rw [hk]; rfl
  have hne' : (y == x) = false := beq_eq_false_iff_ne.mpr fun e => hne e.symm
  have hle : py.line = px.line := eq_of_beq hl
  have hed : ([x, y] : List Str).eraseDups.length = 2 := by
    have h1 : ([x, y] : List Str).eraseDups = [x, y] := by
      rw [List.eraseDups_cons, List.filter_cons, if_pos (by rw [hne']; rfl), List.filter_nil, List.eraseDups_cons, List.filter_nil]
      rfl
    rw [h1]
    rfl
  have hfm : ([Expr.Name x px, Expr.Name y py].filterMap fun
      | .Name id pos => if env.kindOf id == some .local && pos.line == (([Expr.Name x px, Expr.Name y py].head?.map (·.pos.line)).getD 0) then some id else none
      | _ => none) = [x, y] := by
    simp [kx, ky, Expr.pos, hle, List.filterMap_cons]
  have hst : ([a, b].any fun | .Starred .. => true | _ => false) = false := by
    cases a <;> first | (cases b <;> first | rfl | exact absurd hb Bool.false_ne_true) | exact absurd ha Bool.false_ne_true
  have h0 : (!([Expr.Name x px, Expr.Name y py].length == 2 || [Expr.Name x px, Expr.Name y py].length == 3) || [a, b].length != [Expr.Name x px, Expr.Name y py].length || env.blockKind != .function) = false := by
    rw [hbk]
    rfl
  unfold swappedStores
  try dsimp only
  refine (if_neg (fun h => Bool.false_ne_true (h0.symm.trans h))).trans ?_
  try dsimp only
  refine (if_neg (fun h => Bool.false_ne_true (hst.symm.trans h))).trans ?_
  try dsimp only
  generalize hg : List.filterMap _ _ = l
  have el : l = [x, y] := hg.symm.trans hfm
  subst el
  rw [hed]
  have h3 : ([x, y].length != [Expr.Name x px, Expr.Name y py].length || 2 != [x, y].length) = false := rfl
  refine (if_neg (fun h => Bool.false_ne_true (h3.symm.trans h))).trans ?_
  have h1 : ([a, b].all (foldedForSure 8)) = false := by
    show (foldedForSure 8 a && (foldedForSure 8 b && true)) = false
    rw [Bool.and_true]
    exact hf
  have h2 : ([a, b].all (constantsAlone 8)) = false := by
    show (constantsAlone 8 a && (constantsAlone 8 b && true)) = false
    rw [Bool.and_true]
    exact hc
  try dsimp only
  refine (if_neg (fun h => Bool.false_ne_true (h1.symm.trans h))).trans ?_
  try dsimp only
  refine (if_neg (fun h => Bool.false_ne_true (h2.symm.trans h))).trans ?_
  rfl
theorem filt_two {α β : Type} {f : α → Option β} {x y : α} (h : f x = none ∨ f y = none) : ([x, y].filterMap f).length ≠ 2 := by
  rcases h with h | h
  · rw [List.filterMap_cons, h]
    show ([y].filterMap f).length ≠ 2
    have := List.length_filterMap_le f [y]
    simp only [List.length_cons, List.length_nil] at this
    omega
  · have e : [x, y].filterMap f = [x].filterMap f := by
      simp [List.filterMap_cons, h]
    rw [e]
    have := List.length_filterMap_le f [x]
    simp only [List.length_cons, List.length_nil] at this
    omega
theorem sw_two_no {t1 t2 a b : Expr} {kt k2 : Nat} {pt pt2 : Pos} {env : PySem.Env} (h : (locE env.scope t1 && locE env.scope t2) = false) (hk : env.scope.kind = .function) :
    swappedStores [.Tuple [t1, t2] kt pt] (.Tuple [a, b] k2 pt2) env = pure none := by
  have hbk : env.blockKind = .function := by unfold Env.blockKind; rw [hk]; rfl
  have h0 : (!([t1, t2].length == 2 || [t1, t2].length == 3) || [a, b].length != [t1, t2].length || env.blockKind != .function) = false := by
    rw [hbk]
    rfl
  have no : ∀ (t : Expr) (l : Nat), locE env.scope t = false → (match t with
      | .Name id pos => if env.kindOf id == some .local && pos.line == l then some id else none
      | _ => none) = none := fun t l ht => by
    cases t with
    | Name x p =>
      have ht : ¬ env.scope.names.lookup x = some .local := of_decide_eq_false ht
      have hb : (env.kindOf x == some .local) = false := beq_eq_false_iff_ne.mpr ht
      show (if (env.kindOf x == some .local && p.line == l) = true then some x else none) = none
      rw [hb, Bool.false_and, if_neg Bool.false_ne_true]
    | _ => rfl
  unfold swappedStores
  try dsimp only
  refine (if_neg (fun h => Bool.false_ne_true (h0.symm.trans h))).trans ?_
  try dsimp only
  split
  · rfl
  · try dsimp only
    generalize hg : List.filterMap _ _ = l
    have hl : l.length ≠ 2 := by
      rw [← hg]
      refine filt_two ?_
      cases hq : locE env.scope t1 with
      | false => exact .inl (no t1 _ hq)
      | true =>
        rw [hq, Bool.true_and] at h
        exact .inr (no t2 _ h)
    have h3 : (l.length != [t1, t2].length || l.eraseDups.length != l.length) = true := by
      have : (l.length != [t1, t2].length) = true := by
        rw [bne_iff_ne]
        exact hl
      rw [this, Bool.true_or]
    exact if_pos h3
theorem sw_not (g : GdS w pg tb F X N sc W k) {tg e' : Expr} (h : swNo sc tg e' = true) : swappedStores [tg] e' X.env = pure none := by
  unfold swNo at h
  rw [Bool.or_eq_true] at h
  rcases h with h | h
  · cases e' <;> first | (cases tg <;> rfl) | exact absurd h Bool.false_ne_true
  · split at h
    · exact sw_two_no (by rw [g.g.hsc]; rw [Bool.not_eq_true'] at h; exact h) (by rw [g.g.hsc]; exact g.kind)
    · cases h
theorem ss_asg (g : GdS w pg tb F X N sc W k) (hh : w.hot = false) {e : Mu.X} {e' tg : Expr} {gg : G} (hg : chkG N sc gg tg = true) (h : noComp e' = true) (h2 : swNo sc tg e' = true) (he : PE X e' (tX w pg F e W)) : PS X (.Assign [tg] e' pos) (tS w pg F (.asg gg e) W) :=
  PS.imp (ps_asg he (sg g.g hh gg tg hg) (sw_no h _ _ _) (sw_not g h2) (by rw [asg_ok (chkG_star hg)]; rfl)) fun D σ H ⟨z, env, S, En, p⟩ =>
    ⟨z, env, S, En, (PostS.bind (rel := rT w) (r := ev pg F e env z.st) p En).imp fun x H1 ⟨z1, t, g1, s1, r1, p1⟩ => by
      revert p1
      cases hb : bindG gg t env with
      | none => exact fun p => p.elim
      | some env' => exact fun p => ⟨z1, t, env, env', s1, En.go g1, r1, hb, fun σ' En' _ => PostS.here p s1 En'⟩⟩
theorem ss_par (g : GdS w pg tb F X N sc W k) (hh : w.hot = false) {a b : Mu.X} {a' b' : Expr} {i j : Nat} {x y : Str} {px py pt pt2 : Pos} {kt k2} (hi : N[i]? = some x) (hj : N[j]? = some y) (hij : i ≠ j) (hx : sc.names.lookup x = some .local) (hy : sc.names.lookup y = some .local) (hne : x ≠ y) (hl : (py.line == px.line) = true)
    (na : noStar a' = true) (nb : noStar b' = true) (hf : (foldedForSure 8 a' && foldedForSure 8 b') = false) (hc : (constantsAlone 8 a' && constantsAlone 8 b') = false) (ha : PE X a' (tX w pg F a W)) (hb : PE X b' (tX w pg F b W)) :
    PS X (.Assign [.Tuple [.Name x px, .Name y py] kt pt] (.Tuple [a', b'] k2 pt2) pos) (tS w pg F (.par i j a b) W) := by
  have hx' : X.env.scope.names.lookup x = some .local := by rw [g.g.hsc]; exact hx
  have hy' : X.env.scope.names.lookup y = some .local := by rw [g.g.hsc]; exact hy
  refine PS.imp (ps_par (g.g.calm hh) (by rw [g.g.hN]; exact g.g.nd) (by rw [g.g.hN]; exact hi) (by rw [g.g.hN]; exact hj) hij hx' hy' (pa_cons ha (pa_cons hb pa_nil (star_ok nb)) (star_ok na)) (sw_two (by rw [g.g.hsc]; exact g.kind) hx' hy' hl hne na nb hf hc)) fun D σ H ⟨z, env, S, En, p⟩ =>
    ⟨z, env, S, En, (PostS.bind (rel := rT w) (r := ev pg F a env z.st) p En).imp fun u H1 ⟨z1, t, g1, s1, r1, p1⟩ =>
      ⟨z1, env, s1, En.go g1, (PostS.bind (rel := rT w) (r := ev pg F b env z1.st) p1 (En.go g1)).imp fun v H2 ⟨z2, t2, g2, s2, r2, p2⟩ => ?_⟩⟩
  have p2 : PostS w z2 H2 (if i < env.length ∧ j < env.length then .nx ((env.set i (some t)).set j (some t2)) z2.st else .bad) D W := p2
  by_cases hb : i < env.length ∧ j < env.length
  · rw [if_pos hb] at p2
    exact ⟨u, v, rfl, PostS.here p2 s2 ((((En.go g1).go g2).set (g2.rep r1)).set r2)⟩
  · rw [if_neg hb] at p2
    exact p2.elim
theorem ss_ret {e : Mu.X} {e' : Expr} (he : PE X e' (tX w pg F e W)) : PS X (.Return (some e') pos) (tS w pg F (.ret e) W) :=
  PS.imp (ps_ret he) fun D σ H ⟨z, env, S, En, p⟩ => ⟨z, env, S, En, (PostS.bind (rel := rT w) (r := ev pg F e env z.st) p En).imp fun x H1 ⟨z1, t, g1, s1, r1, p1⟩ => p1 z1 H1 x rfl Go.refl s1 r1⟩
theorem ss_retN : PS X (.Return none pos) (tS w pg F .retN W) := PS.imp ps_retN fun D σ H ⟨z, env, S, En, p⟩ => p z H .non rfl Go.refl S Rep.of_non
theorem ss_pass : PS X (.Pass pos) (tS w pg F .pass W) := PS.imp ps_pass fun D σ H ⟨z, env, S, En, p⟩ => PostS.here p S En
theorem ss_brk : PS X (.Break pos) (tS w pg F .brk W) := PS.imp ps_break fun D σ H ⟨z, env, S, En, p⟩ => p z H σ rfl Go.refl S En
theorem ss_cnt : PS X (.Continue pos) (tS w pg F .cnt W) := PS.imp ps_continue fun D σ H ⟨z, env, S, En, p⟩ => p z H σ rfl Go.refl S En
theorem ss_ife {cc : Mu.X} {a b : Ss} {c' : Expr} {a' b' : List Stmt} (hc : PT X c' (tXT w pg F cc W)) (ha : PSs X a' (tSs w pg F a W)) (hb : PSs X b' (tSs w pg F b W)) : PS X (.If c' a' b' pos) (tS w pg F (.ife cc a b) W) :=
  PS.imp (ps_if hc ha hb) fun D σ H ⟨z, env, S, En, p⟩ => ⟨z, env, S, En, (PostS.bind (rel := rB) (r := evT pg F cc env z.st) p En).imp fun x H1 ⟨z1, t, g1, s1, r1, p1⟩ => by
    have r1 : x = t := r1
    subst r1
    cases x with
    | true => rw [if_pos rfl]; exact ⟨z1, env, s1, En.go g1, p1⟩
    | false => rw [if_neg Bool.false_ne_true]; exact ⟨z1, env, s1, En.go g1, p1⟩⟩
theorem ss_aug (g : GdS w pg tb F X N sc W k) {e : Mu.X} {e' : Expr} {i : Nat} {x : Str} {p0 : Pos} (op : Operator) (h1 : N[i]? = some x) (h2 : locB sc x = true) (he : PE X e' (tX w pg F e W)) : PS X (.AugAssign (.Name x p0) op e' pos) (tS w pg F (.aug i op e) W) := by
  obtain ⟨l1, l2⟩ := loc_ok g.g h2
  have go : ∀ {f : Int → Int → Int}, PIp X op (ipI f) → (∀ D σ H, tS w pg F (.aug i op e) W D σ H → tAug i (tX w pg F e W) (ipI f) D σ H) → PS X (.AugAssign (.Name x p0) op e' pos) (tS w pg F (.aug i op e) W) := fun ip im =>
    PS.imp (ps_aug (i := i) (by rw [g.g.hN]; exact g.g.nd) (by rw [g.g.hN]; exact h1) l1 he ip l2) im
  have at_ : ∀ {z : Z} {env : Env} {σ : L2.St} {a : Int}, getS i env = some (.int a) → EnvR w z env σ → σ[i]? = some (some (.int a)) := fun {z env σ a} h En => by
    unfold getS at h
    cases q : env[i]? with
    | none => rw [q] at h; cases h
    | some o =>
      rw [q] at h
      have h : o = some (.int a) := h
      subst h
      obtain ⟨v, h1, h2⟩ := En.2 i _ q
      rw [h1, h2.int_inv]
  have nev : (∀ D σ H, ¬ tS w pg F (.aug i op e) W D σ H) → PS X (.AugAssign (.Name x p0) op e' pos) (tS w pg F (.aug i op e) W) := fun n => PS.imp ps_never n
  cases op with
  | Add =>
    refine go ip_add fun D σ H ⟨z, env, S, En, p⟩ => ?_
    have p : PostS w z H (match getS i env with
      | some (.int a) => (ev pg F e env z.st).toS env fun y st => match y with
        | .int b => setS i (.int (a + b)) env st
        | _ => .bad
      | _ => .bad) D W := by
      have p : PostS w z H (ex pg F (.aug i .Add e) env z.st) D W := p
      revert p
      show PostS w z H (match Operator.Add, getS i env with
        | .Add, some (.int a) => (ev pg F e env z.st).toS env fun y st => match y with
          | .int b => setS i (.int (a + b)) env st
          | _ => .bad
        | .Sub, some (.int a) => (ev pg F e env z.st).toS env fun y st => match y with
          | .int b => setS i (.int (a - b)) env st
          | _ => .bad
        | _, _ => .bad) D W → _
      cases getS i env with
      | none => exact fun p => p
      | some t => cases t <;> exact fun p => p
    split at p
    · rename_i av hg
      refine ⟨.int av, at_ hg En, z, env, S, En, (PostS.bind (rel := rT w) (r := ev pg F e env z.st) p En).imp fun y H1 ⟨z1, t, g1, s1, r1, p1⟩ => ?_⟩
      cases t with
      | int bv => exact ⟨av, bv, rfl, r1.int_inv, set_post p1 s1 (En.go g1) (Rep.of_int _)⟩
      | _ => exact p1.elim
    · exact p.elim
  | Sub =>
    refine go ip_sub fun D σ H ⟨z, env, S, En, p⟩ => ?_
    have p : PostS w z H (match getS i env with
      | some (.int a) => (ev pg F e env z.st).toS env fun y st => match y with
        | .int b => setS i (.int (a - b)) env st
        | _ => .bad
      | _ => .bad) D W := by
      have p : PostS w z H (ex pg F (.aug i .Sub e) env z.st) D W := p
      revert p
      show PostS w z H (match Operator.Sub, getS i env with
        | .Add, some (.int a) => (ev pg F e env z.st).toS env fun y st => match y with
          | .int b => setS i (.int (a + b)) env st
          | _ => .bad
        | .Sub, some (.int a) => (ev pg F e env z.st).toS env fun y st => match y with
          | .int b => setS i (.int (a - b)) env st
          | _ => .bad
        | _, _ => .bad) D W → _
      cases getS i env with
      | none => exact fun p => p
      | some t => cases t <;> exact fun p => p
    split at p
    · rename_i av hg
      refine ⟨.int av, at_ hg En, z, env, S, En, (PostS.bind (rel := rT w) (r := ev pg F e env z.st) p En).imp fun y H1 ⟨z1, t, g1, s1, r1, p1⟩ => ?_⟩
      cases t with
      | int bv => exact ⟨av, bv, rfl, r1.int_inv, set_post p1 s1 (En.go g1) (Rep.of_int _)⟩
      | _ => exact p1.elim
    · exact p.elim
  | _ =>
    refine nev fun D σ H ⟨z, env, S, En, p⟩ => ?_
    exact p.elim
/-! ### blocks, loops -/
theorem sss_nil : PSs X [] (tSs w pg F .nil W) := PSs.imp pss_nil fun D σ H ⟨z, env, S, En, p⟩ => PostS.here p S En
theorem sss_cons {a : S} {r : Ss} {st : Stmt} {sts : List Stmt} (ha : PS X st (tS w pg F a W)) (hr : PSs X sts (tSs w pg F r W)) : PSs X (st :: sts) (tSs w pg F (.cons a r) W) :=
  PSs.imp (pss_cons ha hr) fun D σ H ⟨z, env, S, En, p⟩ => by
    refine ⟨z, env, S, En, ?_⟩
    have p : PostS w z H (match ex pg F a env z.st with
      | .nx e' st' => exs pg F r e' st'
      | .rt t st' => .rt t st'
      | .bk e' st' => .bk e' st'
      | .ct e' st' => .ct e' st'
      | .exc c us e' st' => .exc c us e' st'
      | .bad => .bad) D W := p
    revert p
    cases ex pg F a env z.st with
    | nx e' st' =>
      intro p z' H' σ' e g s En'
      subst e
      exact ⟨z', e', s, En', PostS.go (r := exs pg F r e' z'.st) p g⟩
    | rt t st' => exact fun p => p
    | bk e' st' => exact fun p => p
    | ct e' st' => exact fun p => p
    | exc c us e' st' => exact fun p => p
    | bad => exact fun p => p
theorem sss_frz {i : Nat} {r : Ss} {sts : List Stmt} (hr : PSs X sts (tSs w pg F r W)) : PSs X sts (tSs w pg F (.cons (.frz i) r) W) :=
  PSs.imp hr fun D σ H ⟨z, env, S, En, p⟩ => by
    have p : PostS w z H (match (match getS i env with
      | some (.cell n) => match cellO z.st n with
        | some ob => if ob.nt then RS.nx (env.set i (some ob.pure)) (z.st.set n none) else .bad
        | none => .bad
      | _ => .bad) with
      | .nx e' st' => exs pg F r e' st'
      | .rt t st' => .rt t st'
      | .bk e' st' => .bk e' st'
      | .ct e' st' => .ct e' st'
      | .exc c us e' st' => .exc c us e' st'
      | .bad => .bad) D W := p
    cases hg : getS i env with
    | none => rw [hg] at p; exact p.elim
    | some t =>
      rw [hg] at p
      cases t with
      | cell n =>
        have p : PostS w z H (match (match cellO z.st n with
          | some ob => if ob.nt then RS.nx (env.set i (some ob.pure)) (z.st.set n none) else .bad
          | none => .bad) with
          | .nx e' st' => exs pg F r e' st'
          | .rt t st' => .rt t st'
          | .bk e' st' => .bk e' st'
          | .ct e' st' => .ct e' st'
          | .exc c us e' st' => .exc c us e' st'
          | .bad => .bad) D W := p
        cases hc : cellO z.st n with
        | none => rw [hc] at p; exact p.elim
        | some ob =>
          rw [hc] at p
          have p : PostS w z H (match (if ob.nt then RS.nx (env.set i (some ob.pure)) (z.st.set n none) else .bad) with
            | .nx e' st' => exs pg F r e' st'
            | .rt t st' => .rt t st'
            | .bk e' st' => .bk e' st'
            | .ct e' st' => .ct e' st'
            | .exc c us e' st' => .exc c us e' st'
            | .bad => .bad) D W := p
          cases hnt : ob.nt with
          | false => rw [hnt] at p; exact p.elim
          | true =>
          rw [hnt] at p
          have hi : env[i]? = some (some (.cell n)) := by
            unfold getS at hg
            cases q : env[i]? with
            | none => rw [q] at hg; cases hg
            | some o =>
              rw [q] at hg
              have hg : o = some (.cell n) := hg
              rw [hg]
          obtain ⟨v, h1, h2⟩ := En.2 i _ hi
          obtain ⟨hm', s2, g2, r2⟩ := S.freeze hnt (cellO_at hc) h2
          refine ⟨⟨z.as, hm', z.st.set n none⟩, env.set i (some ob.pure), s2, ?_, PostS.go (r := exs pg F r _ _) p g2⟩
          have e2 : σ.set i (some v) = σ := by
            apply List.ext_getElem?
            intro j
            by_cases hj : i = j
            · subst hj
              rw [List.getElem?_set_self (List.getElem?_eq_some_iff.mp h1).1, h1]
            · rw [List.getElem?_set_ne hj]
          have := (En.go g2).set (i := i) r2
          rw [e2] at this
          exact this
      | _ => exact p.elim
end
section
variable {w : Wd} {pg : Pg} {tb : Tab} {F : Fn} {X : Cx} {N : List Str} {sc : Scope} {W : WX} {k : Nat} {pos : Pos}
theorem ss_forr (g : GdS w pg tb F X N sc W k) (hh : w.hot = false) {it : Mu.X} {gg : G} {b : Ss} {tg it' : Expr} {b' : List Stmt} (hset : noSet it' = true) (hg : chkG N sc gg tg = true) (hi : PI X tg it' (iX w pg F it W)) (hb : PSs X b' (tSs w pg F b W)) :
    PS X (.For tg it' b' [] pos) (tS w pg F (.forr gg it b) W) := by
  refine PS.imp (ps_for g.pass (g.g.calm hh) hi (sg g.g hh gg tg hg) hb (folded_ok hset)) fun D σ H ⟨z, env, S, En, p⟩ => ⟨z, env, S, En, (PostS.bind (rel := rI w) (r := evI pg F it env z.st) p En).imp fun J H1 ⟨z1, ts, g1, s1, wk, p1⟩ => ?_⟩
  obtain ⟨G0, Y, wk, hGG, yld⟩ := wk
  refine for_it wk (Pv := fun i σ Hc => ∃ z' env', Go z1 H1 z' Hc ∧ StRel w z' Hc ∧ EnvR w z' env' σ ∧ PostS w z' Hc (exFor gg (fun env st => exs pg F b env st) (ts.drop i) env' z'.st) D W) ?_ ?_ ?_ ?_
  · exact ⟨z1, env, Go.refl, s1, En.go g1, p1⟩
  · rintro i σ' Hc hi' ⟨z', env', g', S', _, _⟩
    exact hGG Hc fun a o h => S'.sub _ _ (g'.hm a o h)
  · rintro i x σ' Hc H' hi' ⟨z', env', g', S', En', p'⟩ y
    obtain ⟨z3, t, e3, g3, S3, ht, rt⟩ := yld i Hc x H' z' g'.hm (fun n a h => g'.at h) S' y
    rw [drop_at ht] at p'
    have p' : PostS w z' Hc (match bindG gg t env' with
      | none => .bad
      | some e => match exs pg F b e z'.st with
        | .nx e' st' => exFor gg (fun env st => exs pg F b env st) (ts.drop (i + 1)) e' st'
        | .ct e' st' => exFor gg (fun env st => exs pg F b env st) (ts.drop (i + 1)) e' st'
        | .bk e' st' => .nx e' st'
        | .rt t st' => .rt t st'
        | .exc c us e' st' => .exc c us e' st'
        | .bad => .bad) D W := p'
    cases hb : bindG gg t env' with
    | none => rw [hb] at p'; exact p'.elim
    | some e1 =>
      rw [hb] at p'
      have p3 := PostS.go p' g3
      refine ⟨z3, t, env', e1, S3, En'.go g3, rt, hb, fun σ2 En2 _ => ⟨z3, e1, S3, En2, ?_⟩⟩
      rw [e3]
      have p3 : PostS w z3 H' (match exs pg F b e1 z'.st with
        | .nx e' st' => exFor gg (fun env st => exs pg F b env st) (ts.drop (i + 1)) e' st'
        | .ct e' st' => exFor gg (fun env st => exs pg F b env st) (ts.drop (i + 1)) e' st'
        | .bk e' st' => .nx e' st'
        | .rt t st' => .rt t st'
        | .exc c us e' st' => .exc c us e' st'
        | .bad => .bad) D W := p3
      revert p3
      cases exs pg F b e1 z'.st with
      | nx e' st' =>
        intro p3 z4 H4 σ4 e4 g4 s4 En4
        subst e4
        exact ⟨z4, e', (g'.trans g3).trans g4, s4, En4, PostS.go p3 g4⟩
      | ct e' st' =>
        intro p3 z4 H4 σ4 e4 g4 s4 En4
        subst e4
        exact ⟨z4, e', (g'.trans g3).trans g4, s4, En4, PostS.go p3 g4⟩
      | bk e' st' => exact fun p3 => p3
      | rt t st' => exact fun p3 => p3
      | exc c us e' st' => exact fun p3 => p3
      | bad => exact fun p3 => p3
  · rintro σ' Hc ⟨z', env', g', S', En', p'⟩
    rw [List.drop_length] at p'
    exact PostS.here p' S' En'
theorem ss_whl (g : GdS w pg tb F X N sc W k) {n : Nat} {cc : Mu.X} {b : Ss} {c' : Expr} {b' : List Stmt} (hc : PT X c' (tXT w pg F cc W)) (hb : PSs X b' (tSs w pg F b W)) :
    PS X (.While c' b' [] pos) (tS w pg F (.whl n cc b) W) := by
  refine PS.imp (ps_while g.pass hc hb) fun D σ H ⟨z, env, S, En, p⟩ => ?_
  refine ⟨fun m σ Hc => ∃ z' env', StRel w z' Hc ∧ EnvR w z' env' σ ∧ PostS w z' Hc (exWhl (fun env st => evT pg F cc env st) (fun env st => exs pg F b env st) m env' z'.st) D W, ⟨n, z, env, S, En, p⟩, ?_⟩
  rintro m σ1 H1 ⟨z1, env1, S1, En1, p1⟩
  cases m with
  | zero => exact p1.elim
  | succ m =>
    have p1 : PostS w z1 H1 ((evT pg F cc env1 z1.st).toS env1 fun bb st1 => if bb then (match exs pg F b env1 st1 with
      | .nx e' st' => exWhl (fun env st => evT pg F cc env st) (fun env st => exs pg F b env st) m e' st'
      | .ct e' st' => exWhl (fun env st => evT pg F cc env st) (fun env st => exs pg F b env st) m e' st'
      | .bk e' st' => .nx e' st'
      | .rt t st' => .rt t st'
      | .exc c us e' st' => .exc c us e' st'
      | .bad => .bad) else .nx env1 st1) D W := p1
    refine ⟨z1, env1, S1, En1, (PostS.bind (rel := rB) (r := evT pg F cc env1 z1.st) p1 En1).imp fun x H2 ⟨z2, t, g2, s2, r2, p2⟩ => ?_⟩
    have r2 : x = t := r2
    subst r2
    cases x with
    | false =>
      rw [if_neg Bool.false_ne_true] at p2 ⊢
      exact PostS.here p2 s2 (En1.go g2)
    | true =>
      rw [if_pos rfl] at p2 ⊢
      refine ⟨fun σ Hc => ∃ z' env', StRel w z' Hc ∧ EnvR w z' env' σ ∧ PostS w z' Hc (exWhl (fun env st => evT pg F cc env st) (fun env st => exs pg F b env st) m env' z'.st) D W, fun σ' H' h => ⟨m, Nat.lt_succ_self m, h⟩, z2, env1, s2, En1.go g2, ?_⟩
      revert p2
      cases exs pg F b env1 z2.st with
      | nx e' st' =>
        intro p3 z4 H4 σ4 e4 g4 s4 En4
        subst e4
        exact ⟨z4, e', s4, En4, PostS.go p3 g4⟩
      | ct e' st' =>
        intro p3 z4 H4 σ4 e4 g4 s4 En4
        subst e4
        exact ⟨z4, e', s4, En4, PostS.go p3 g4⟩
      | bk e' st' => exact fun p3 => p3
      | rt t st' => exact fun p3 => p3
      | exc c us e' st' => exact fun p3 => p3
      | bad => exact fun p3 => p3
/-! ### stores into a list, a dict -/
def rPut (w : Wd) : TSet := fun o i v H Q => ∃ z x y t st', StRel w z H ∧ Rep w z.as z.hm x o ∧ Rep w z.as z.hm y i ∧ Rep w z.as z.hm t v ∧ putT z.st x y t = some st' ∧ ∀ z' H', z'.st = st' → Go z H z' H' → StRel w z' H' → Q H'
theorem pset_mu (hu : X.A.units + 65 < cLine) : PSet X (rPut w) := by
  intro pins s σ H o i v ov iv u Q I ro ri rv ⟨z, x, y, t, st', S, rx, ry, rt, hp, q⟩
  cases x with
  | cell n =>
    have hp : (match cellO z.st n with
      | some (.lst ts) => match (generalizing := false) y with
        | .int k => if 0 ≤ k ∧ k < ts.length then some (putO z.st n (.lst (ts.set k.toNat t))) else none
        | _ => none
      | some (.dic ks ts) => match (generalizing := false) keyT y with
        | some ky => if ks.length < big then some (putO z.st n (.dic (putKy ky t ks ts).1 (putKy ky t ks ts).2)) else none
        | none => none
      | _ => none) = some st' := hp
    split at hp
    · rename_i ts hc
      obtain ⟨a, ho, rfl, ha, hH, vs, rfl, r1⟩ := cell_obj S hc rx
      cases y with
      | int kk =>
        have hp : (if 0 ≤ kk ∧ kk < ts.length then some (putO z.st n (.lst (ts.set kk.toNat t))) else none) = some st' := hp
        by_cases hb : 0 ≤ kk ∧ kk < ts.length
        · rw [if_pos hb] at hp
          cases hp
          obtain ⟨s2, g2⟩ := S.put (ob' := .lst (ts.set kk.toNat t)) (cellO_at hc) ha ⟨_, rfl, r1.set rt kk.toNat⟩
          refine set_list pins s σ H _ i v ov iv u Q I ro ri rv ⟨a, vs, kk, kk.toNat, rfl, ry.int_inv, hH, ?_, q ⟨z.as, z.hm, z.st.set n (some (.lst (ts.set kk.toNat t)))⟩ _ rfl g2 s2⟩
          unfold ixN
          rw [if_pos hb.1, if_pos (by rw [← r1.length]; exact hb.2)]
        · rw [if_neg hb] at hp
          cases hp
      | _ => cases hp
    · rename_i ks ts hc
      obtain ⟨a, ho, rfl, ha, hH, kvs, rfl, m1, r1⟩ := cell_obj S hc rx
      split at hp
      · rename_i ky hk
        by_cases hb : ks.length < big
        · rw [if_pos hb] at hp
          cases hp
          obtain ⟨m2, r2⟩ := put_rep ky rt m1 r1
          obtain ⟨s2, g2⟩ := S.put (ob' := .dic (putKy ky t ks ts).1 (putKy ky t ks ts).2) (cellO_at hc) ha ⟨putK kvs (kyK ky) v, rfl, m2, r2⟩
          have e1 := keyT_rep hk ry
          subst e1
          have hl : kvs.length < sizeLine := by
            have := congrArg List.length m1
            rw [List.length_map, List.length_map] at this
            rw [this, ← big_line]
            exact hb
          exact set_dict (by omega) pins s σ H _ _ v ov iv u Q I ro ri rv ⟨a, _, rfl, DPut.k hH hl, q ⟨z.as, z.hm, z.st.set n (some (.dic (putKy ky t ks ts).1 (putKy ky t ks ts).2))⟩ _ rfl g2 s2⟩
        · rw [if_neg hb] at hp
          cases hp
      · cases hp
    · cases hp
  | _ => cases hp
theorem ss_put (g : GdS w pg tb F X N sc W k) {o i e : Mu.X} {o' i' e' : Expr} {p0 : Pos} (h : noSlice i' = true) (ho : PE X o' (tX w pg F o W)) (hi : PE X i' (tX w pg F i W)) (he : PE X e' (tX w pg F e W)) :
    PS X (.Assign [.Subscript o' i' p0] e' pos) (tS w pg F (.put o i e) W) :=
  PS.imp (ps_asg he (pg_sub ho hi (pset_mu (units_of g.g)) (by intro v; cases i' <;> first | rfl | exact absurd h Bool.false_ne_true)) (by cases e' <;> rfl) (by cases e' <;> rfl)) fun D σ H ⟨z, env, S, En, p⟩ =>
    ⟨z, env, S, En, (PostS.bind (rel := rT w) (r := ev pg F e env z.st) p En).imp fun v H1 ⟨z1, t, g1, s1, r1, p1⟩ =>
      ⟨z1, env, s1, En.go g1, (PostS.bind (rel := rT w) (r := ev pg F o env z1.st) p1 (En.go g1)).imp fun ov H2 ⟨z2, x, g2, s2, r2, p2⟩ =>
        ⟨z2, env, s2, (En.go g1).go g2, (PostS.bind (rel := rT w) (r := ev pg F i env z2.st) p2 ((En.go g1).go g2)).imp fun iv H3 ⟨z3, y, g3, s3, r3, p3⟩ => by
          revert p3
          cases hp : putT z3.st x y t with
          | none => exact fun p => p.elim
          | some st' => exact fun p => ⟨z3, x, y, t, st', s3, g3.rep r2, r3, g3.rep (g2.rep r1), hp, fun z4 H4 e4 g4 s4 => p z4 H4 σ e4 g4 s4 ((((En.go g1).go g2).go g3).go g4)⟩⟩⟩⟩
theorem ss_sub (g : GdS w pg tb F X N sc W k) (hh : w.hot = false) {o i e : Mu.X} {o' i' e' : Expr} {j : Nat} {x : Str} {p0 p1 p2 : Pos} {kt} (h1 : N[j]? = some x) (h2 : locB sc x = true) (h3 : noSlice i' = true) (h4 : noComp e' = true) (h5 : noSeq e' = true)
    (ho : PE X o' (tX w pg F o W)) (hi : PE X i' (tX w pg F i W)) (he : PE X e' (tX w pg F e W)) : PS X (.Assign [.Tuple [.Subscript o' i' p0, .Name x p1] kt p2] e' pos) (tS w pg F (.sub o i j e) W) := by
  obtain ⟨l1, l2⟩ := loc_ok g.g h2
  have hset : PSet X (rPut w) := pset_mu (units_of g.g)
  have hsub : PG X (.Subscript o' i' p0) (gSub (tX w pg F o W) (tX w pg F i W) (rPut w)) := pg_sub ho hi hset (by intro v; cases i' <;> first | rfl | exact absurd h3 Bool.false_ne_true)
  have hnm : PG X (.Name x p1) (gName j) := pg_name (i := j) (by rw [g.g.hN]; exact g.g.nd) (by rw [g.g.hN]; exact h1) l1 l2
  have hgs : PG X (.Tuple [.Subscript o' i' p0, .Name x p1] kt p2) (gTup X.K 2 (gCons (gSub (tX w pg F o W) (tX w pg F i W) (rPut w)) (gCons (gName j) gNil))) := pg_tup (n := 2) (g.g.calm hh) (pgs_cons hsub (pgs_cons hnm pgs_nil))
  have hsw : swappedStores [.Tuple [.Subscript o' i' p0, .Name x p1] kt p2] e' X.env = pure none := by cases e' <;> first | rfl | exact absurd h5 Bool.false_ne_true
  refine PS.imp (ps_asg he hgs (hs := sw_no h4 (some (.Tuple [.Subscript o' i' p0, .Name x p1] kt p2)) pos.line X.env)
    (hw := hsw)) fun D σ H ⟨z, env, S, En, p⟩ => ⟨z, env, S, En, (PostS.bind (rel := rT w) (r := ev pg F e env z.st) p En).imp fun v H1 ⟨z1, t, g1, s1, r1, p1⟩ => ?_⟩
  cases t with
  | tup ts =>
    match ts, r1, p1 with
    | [u, v], r1, p1 =>
      have p1 : PostS w z1 H1 ((ev pg F o env z1.st).toS env fun x st => (ev pg F i env st).toS env fun y st => match putT st x y u with
        | some st' => setS j v env st'
        | none => .bad) D W := p1
      obtain ⟨ad, vs, rfl, hq, rr⟩ := Rep.tup_inv r1
      obtain ⟨v1, v2, rfl, q1, q2⟩ := rr.two
      refine ⟨ad, [v1, v2], rfl, by rw [g.g.hK]; exact sqT_mono s1.sub hq, rfl, v1, [v2], rfl, z1, env, s1, En.go g1, (PostS.bind (rel := rT w) (r := ev pg F o env z1.st) p1 (En.go g1)).imp fun ov H2 ⟨z2, x2, g2, s2, r2, p2⟩ =>
        ⟨z2, env, s2, (En.go g1).go g2, (PostS.bind (rel := rT w) (r := ev pg F i env z2.st) p2 ((En.go g1).go g2)).imp fun iv H3 ⟨z3, y3, g3, s3, r3, p3⟩ => ?_⟩⟩
      revert p3
      cases hp : putT z3.st x2 y3 u with
      | none => exact fun p => p.elim
      | some st' =>
        intro p3
        refine ⟨z3, x2, y3, u, st', s3, g3.rep r2, r3, g3.rep (g2.rep q1), hp, fun z4 H4 e4 g4 s4 => ⟨v2, [], rfl, rfl, ?_⟩⟩
        subst e4
        exact set_post (PostS.go (r := setS j v env z4.st) p3 g4) s4 ((((En.go g1).go g2).go g3).go g4) (g4.rep (g3.rep (g2.rep q2)))
    | [], _, p1 => exact p1.elim
    | [_], _, p1 => exact p1.elim
    | _ :: _ :: _ :: _, _, p1 => exact p1.elim
  | _ => exact p1.elim
theorem swap_none {a b c d e : Expr} {p p2 p3 : Pos} {kt} {env : PySem.Env} : swappedStores [.Tuple [.Subscript a b p, .Subscript c d p2] kt p3] e env = pure none := by
  cases e with
  | Tuple vs _ _ =>
    unfold swappedStores
    simp only [List.filterMap_cons, List.filterMap_nil, List.length_cons, List.length_nil]
    split
    · rfl
    · split
      · rfl
      · rfl
  | _ => rfl
theorem ss_sub2 (g : GdS w pg tb F X N sc W k) (hh : w.hot = false) {o i o2 i2 e : Mu.X} {o' i' o2' i2' e' : Expr} {p0 p1 p2 : Pos} {kt} (h3 : noSlice i' = true) (h3' : noSlice i2' = true) (h4 : noComp e' = true)
    (ho : PE X o' (tX w pg F o W)) (hi : PE X i' (tX w pg F i W)) (ho2 : PE X o2' (tX w pg F o2 W)) (hi2 : PE X i2' (tX w pg F i2 W)) (he : PE X e' (tX w pg F e W)) : PS X (.Assign [.Tuple [.Subscript o' i' p0, .Subscript o2' i2' p1] kt p2] e' pos) (tS w pg F (.sub2 o i o2 i2 e) W) := by
  have hset : PSet X (rPut w) := pset_mu (units_of g.g)
  have hsub : PG X (.Subscript o' i' p0) (gSub (tX w pg F o W) (tX w pg F i W) (rPut w)) := pg_sub ho hi hset (by intro v; cases i' <;> first | rfl | exact absurd h3 Bool.false_ne_true)
  have hsub2 : PG X (.Subscript o2' i2' p1) (gSub (tX w pg F o2 W) (tX w pg F i2 W) (rPut w)) := pg_sub ho2 hi2 hset (by intro v; cases i2' <;> first | rfl | exact absurd h3' Bool.false_ne_true)
  have hgs : PG X (.Tuple [.Subscript o' i' p0, .Subscript o2' i2' p1] kt p2) (gTup X.K 2 (gCons (gSub (tX w pg F o W) (tX w pg F i W) (rPut w)) (gCons (gSub (tX w pg F o2 W) (tX w pg F i2 W) (rPut w)) gNil))) := pg_tup (n := 2) (g.g.calm hh) (pgs_cons hsub (pgs_cons hsub2 pgs_nil))
  refine PS.imp (ps_asg he hgs (hs := sw_no h4 (some (.Tuple [.Subscript o' i' p0, .Subscript o2' i2' p1] kt p2)) pos.line X.env)
    (hw := swap_none)) fun D σ H ⟨z, env, S, En, p⟩ => ⟨z, env, S, En, (PostS.bind (rel := rT w) (r := ev pg F e env z.st) p En).imp fun v H1 ⟨z1, t, g1, s1, r1, p1⟩ => ?_⟩
  cases t with
  | tup ts =>
    match ts, r1, p1 with
    | [u, v], r1, p1 =>
      have p1 : PostS w z1 H1 ((ev pg F o env z1.st).toS env fun x st => (ev pg F i env st).toS env fun y st => match putT st x y u with
        | some st' => (ev pg F o2 env st').toS env fun x st => (ev pg F i2 env st).toS env fun y st => match putT st x y v with
          | some st' => .nx env st'
          | none => .bad
        | none => .bad) D W := p1
      obtain ⟨ad, vs, rfl, hq, rr⟩ := Rep.tup_inv r1
      obtain ⟨v1, v2, rfl, q1, q2⟩ := rr.two
      refine ⟨ad, [v1, v2], rfl, by rw [g.g.hK]; exact sqT_mono s1.sub hq, rfl, v1, [v2], rfl, z1, env, s1, En.go g1, (PostS.bind (rel := rT w) (r := ev pg F o env z1.st) p1 (En.go g1)).imp fun ov H2 ⟨z2, x2, g2, s2, r2, p2⟩ =>
        ⟨z2, env, s2, (En.go g1).go g2, (PostS.bind (rel := rT w) (r := ev pg F i env z2.st) p2 ((En.go g1).go g2)).imp fun iv H3 ⟨z3, y3, g3, s3, r3, p3⟩ => ?_⟩⟩
      revert p3
      cases hp : putT z3.st x2 y3 u with
      | none => exact fun p => p.elim
      | some st' =>
        intro p3
        refine ⟨z3, x2, y3, u, st', s3, g3.rep r2, r3, g3.rep (g2.rep q1), hp, fun z4 H4 e4 g4 s4 => ⟨v2, [], rfl, ?_⟩⟩
        subst e4
        have En4 := (((En.go g1).go g2).go g3).go g4
        have p4 := PostS.go (r := (ev pg F o2 env z4.st).toS env fun x st => (ev pg F i2 env st).toS env fun y st => match putT st x y v with
          | some st' => .nx env st'
          | none => .bad) p3 g4
        refine ⟨z4, env, s4, En4, (PostS.bind (rel := rT w) (r := ev pg F o2 env z4.st) p4 En4).imp fun ov5 H5 ⟨z5, x5, g5, s5, r5, p5⟩ =>
          ⟨z5, env, s5, En4.go g5, (PostS.bind (rel := rT w) (r := ev pg F i2 env z5.st) p5 (En4.go g5)).imp fun iv6 H6 ⟨z6, y6, g6, s6, r6, p6⟩ => ?_⟩⟩
        revert p6
        cases hp2 : putT z6.st x5 y6 v with
        | none => exact fun p => p.elim
        | some st6 =>
          intro p6
          refine ⟨z6, x5, y6, v, st6, s6, g6.rep r5, r6, g6.rep (g5.rep (g4.rep (g3.rep (g2.rep q2)))), hp2, fun z7 H7 e7 g7 s7 => ⟨rfl, ?_⟩⟩
          exact p6 z7 H7 σ e7 g7 s7 (((En4.go g5).go g6).go g7)
    | [], _, p1 => exact p1.elim
    | [_], _, p1 => exact p1.elim
    | _ :: _ :: _ :: _, _, p1 => exact p1.elim
  | _ => exact p1.elim
theorem putF_rep {as : List Addr} {H : Hp} {f : Nat} {t : T} {v : V} (rv : Rep w as H t v) : ∀ {fs : List Nat} {ts : List T} {kvs : List (Str × V)}, kvs.map (·.1) = fs.map w.nm → Reps w as H ts (kvs.map (·.2)) → (∀ g ∈ fs, w.nm g = w.nm f → g = f) →
    (putF (w.nm f) v kvs).map (·.1) = (putFV f t fs ts).1.map w.nm ∧ Reps w as H (putFV f t fs ts).2 ((putF (w.nm f) v kvs).map (·.2))
  | [], ts, [], _, r, _ => by
    have : ts = [] := by cases ts with
      | nil => rfl
      | cons t ts => obtain ⟨_, _, e, _⟩ := r.cons_inv; cases e
    subst this
    exact ⟨rfl, Reps.cons rv Reps.nil⟩
  | [], _, _ :: _, h, _, _ => by simp at h
  | _ :: _, _, [], h, _, _ => by simp at h
  | g :: fs, [], p :: kvs, _, r, _ => by have := r.nil_inv; simp at this
  | g :: fs, u :: ts, (x, y) :: kvs, h, r, inj => by
    simp only [List.map_cons,
            List.cons.injEq] at h
    obtain ⟨v', vs, e, r1, r2⟩ := r.cons_inv
    simp only [List.map_cons,
            List.cons.injEq] at e
    by_cases q : g = f
    · have hx : x = w.nm f := by rw [h.1, q]
      simp only [putF, putFV, if_pos hx, if_pos q, List.map_cons]
      exact ⟨by rw [h.2, h.1], Reps.cons rv (by rw [e.2]; exact r2)⟩
    · have hx : ¬ x = w.nm f := fun z => q (inj g List.mem_cons_self (by rw [← h.1, z]))
      obtain ⟨i1, i2⟩ := putF_rep rv (fs := fs) (ts := ts) (kvs := kvs) h.2 (by rw [e.2]; exact r2) fun g' hg' => inj g' (List.mem_cons_of_mem _ hg')
      simp only [putF, putFV, if_neg hx, if_neg q, List.map_cons]
      exact ⟨by rw [i1, h.1], Reps.cons (by rw [e.1]; exact r1) i2⟩
theorem ss_fput (g : GdS w pg tb F X N sc W k) {o e : Mu.X} {o' e' : Expr} {f : Nat} {x : Str} {p0 : Pos} (hx : tb.name f = x) (ho : PE X o' (tX w pg F o W)) (he : PE X e' (tX w pg F e W)) :
    PS X (.Assign [.Attribute o' x p0] e' pos) (tS w pg F (.fput o f e) W) := by
  subst hx
  refine PS.imp (ps_fld ho he (by cases e' <;> rfl)) fun D σ H ⟨z, env, S, En, p⟩ =>
    ⟨z, env, S, En, (PostS.bind (rel := rT w) (r := ev pg F e env z.st) p En).imp fun v H1 ⟨z1, t, g1, s1, r1, p1⟩ =>
      ⟨z1, env, s1, En.go g1, (PostS.bind (rel := rT w) (r := ev pg F o env z1.st) p1 (En.go g1)).imp fun ov H2 ⟨z2, y, g2, s2, r2, p2⟩ => ?_⟩⟩
  have p2 : PostS w z2 H2 (match fputT pg z2.st y f t with
    | some st' => .nx env st'
    | none => .bad) D W := p2
  cases y with
  | cell n =>
    cases hc : cellO z2.st n with
    | none =>
      have : fputT pg z2.st (.cell n) f t = none := by unfold fputT; simp only [hc]
      rw [this] at p2
      exact p2.elim
    | some ob =>
      cases ob with
      | ins c fs ts =>
        cases hcl : pg.cls c with
        | none =>
          have : fputT pg z2.st (.cell n) f t = none := by unfold fputT; simp only [hc, hcl]
          rw [this] at p2
          exact p2.elim
        | some cl =>
          have hfp : fputT pg z2.st (.cell n) f t = if f ∈ cl.fs ∧ (∀ g ∈ fs, g ∈ cl.fs) ∧ fs.length < 1000 then some (putO z2.st n (.ins c (putFV f t fs ts).1 (putFV f t fs ts).2)) else none := by unfold fputT; simp only [hc, hcl]
          rw [hfp] at p2
          by_cases hb : f ∈ cl.fs ∧ (∀ g ∈ fs, g ∈ cl.fs) ∧ fs.length < 1000
          · rw [if_pos hb] at p2
            obtain ⟨a, ho', rfl, ha, hH, dx, kvs, rfl, m1, k1⟩ := cell_obj s2 hc r2
            have co := g.g.tab.cls c cl hcl
            obtain ⟨q1, q2⟩ := putF_rep (g2.rep r1) m1 k1 fun g' hg' e' => (co.inj f hb.1 g' (.inl (hb.2.1 g' hg')) e'.symm).symm
            obtain ⟨s3, g3⟩ := s2.put (ob' := .ins c (putFV f t fs ts).1 (putFV f t fs ts).2) (cellO_at hc) ha ⟨dx, _, rfl, q1, q2⟩
            have hlen : kvs.length < 1000 := by
              have := congrArg List.length m1
              rw [List.length_map, List.length_map] at this
              omega
            rw [← g.g.tab.nm]
            exact ⟨a, w.ad c, dx, kvs, rfl, hH, by rw [g.g.hK]; exact co.cls, by rw [g.g.hK]; exact co.no f hb.1, hlen, p2 ⟨z2.as, z2.hm, z2.st.set n (some (.ins c (putFV f t fs ts).1 (putFV f t fs ts).2))⟩ _ σ rfl g3 s3 (((En.go g1).go g2).go g3)⟩
          · rw [if_neg hb] at p2
            exact p2.elim
      | lst ts =>
        have : fputT pg z2.st (.cell n) f t = none := by unfold fputT; simp only [hc]
        rw [this] at p2
        exact p2.elim
      | dic ks ts =>
        have : fputT pg z2.st (.cell n) f t = none := by unfold fputT; simp only [hc]
        rw [this] at p2
        exact p2.elim
      | tab q =>
        have : fputT pg z2.st (.cell n) f t = none := by unfold fputT; simp only [hc]
        rw [this] at p2
        exact p2.elim
  | _ => exact p2.elim
end
section
variable {w : Wd} {pg : Pg} {tb : Tab} {F : Fn} {X : Cx} {N : List Str} {sc : Scope} {W : WX} {k : Nat} {pos : Pos}
theorem ss_setC (g : GdS w pg tb F X N sc W k) {i : Nat} {e : Mu.X} {st : Stmt} (h : chkC tb N sc i e st = true) : PS X st (tS w pg F (.setC i e) W) := by
  unfold chkC at h
  split at h
  · rename_i x py e' gens scope pos spos
    simp only [Bool.and_eq_true, decide_eq_true_eq, Bool.not_eq_true'] at h
    obtain ⟨⟨⟨⟨⟨h1, h2⟩, h3⟩, h4⟩, h5⟩, hcold⟩ := h
    have hh : w.hot = false := g.g.tab.cold_tb (by rw [hcold]; rfl)
    have hl : X.env.scope.names.lookup x = some .local := by rw [g.g.hsc]; exact h2
    have hsw : swapsWith (.ListComp e' gens scope pos) (some (.Name x py)) spos.line X.env = pure true := by
      refine sw_true (by rw [g.g.hsc]; exact g.kind) hl (by rw [h3]; exact beq_self_eq_true _) ?_
      rw [List.any_eq_false] at h4 ⊢
      intro p hp c
      refine h4 p hp ?_
      obtain ⟨n, kd⟩ := p
      simp only [Bool.and_eq_true, decide_eq_true_eq] at c ⊢
      exact ⟨eq_of_beq c.1, c.2⟩
    cases e with
    | comp kk e1 gg it own' cs =>
      match gens, hsw, h5 with
      | [⟨g', it', cs', 0⟩], hsw, h5 =>
        have h5 : (noSet it' && blkC N sc scope (own'.filterMap fun i => (N[i]?).map fun x => (x, i)) && decide ((own'.filterMap fun i => (N[i]?).map fun x => (x, i)).map (·.2) = own') && chkG N scope gg g' && (gS gg).all (fun j => decide (j ∈ own')) && chkI tb N sc it g' it' && chkA tb N (relS scope sc) cs cs' && chk tb N (relS scope sc) e1 e' && !tb.hot) = true := h5
        simp only [Bool.and_eq_true, decide_eq_true_eq, List.all_eq_true] at h5
        obtain ⟨⟨⟨⟨⟨⟨⟨⟨k0, k1⟩, k2⟩, k3⟩, k4⟩, k5⟩, k6⟩, k7⟩, _⟩ := h5
        exact PS.imp (ps_setLc (i := i) (g.g.calm hh) (by rw [g.g.hN]; exact g.g.nd) (by rw [g.g.hN]; exact h1) hl hsw (sI it g' it' g.g k5) (by rw [g.g.hN, g.g.hsc]; exact blkOk_by k1) (fun s H C cl fp => sg (gd_blk g.g hh s H scope cl C fp) hh gg g' k3)
          (fun s H C cl fp => sA cs cs' (gd_blk g.g hh s H scope cl C fp) k6) (fun s H C cl fp => sx e1 e' (gd_blk g.g hh s H scope cl C fp) k7) (folded_ok k0)) fun D σ H ⟨z, env, S, En, p⟩ =>
          comp_lc g.g k2 k4 (kk := kk) ⟨z, env, S, En, (PostS.bind (rel := rT w) (r := ev pg F (.comp kk e1 gg it own' cs) env z.st) p En).imp fun x H1 ⟨z1, t, g1, s1, r1, p1⟩ => set_post p1 s1 (En.go g1) r1⟩
    | comp2 e1 g1 i1 g2 i2 own' cs =>
      match gens, hsw, h5 with
      | [⟨g1', i1', [], 0⟩, ⟨g2', i2', cs', 0⟩], hsw, h5 =>
        have h5 : (noSet i1' && noSet i2' && blkC N sc scope (own'.filterMap fun i => (N[i]?).map fun x => (x, i)) && decide ((own'.filterMap fun i => (N[i]?).map fun x => (x, i)).map (·.2) = own') && chkG N scope g1 g1' && (gS g1).all (fun j => decide (j ∈ own')) && chkG N scope g2 g2' && (gS g2).all (fun j => decide (j ∈ own')) &&
          chkI tb N sc i1 g1' i1' && chkI tb N (relS scope sc) i2 g2' i2' && chkA tb N (relS scope sc) cs cs' && chk tb N (relS scope sc) e1 e' && !tb.hot) = true := h5
        simp only [Bool.and_eq_true, decide_eq_true_eq, List.all_eq_true] at h5
        obtain ⟨⟨⟨⟨⟨⟨⟨⟨⟨⟨⟨⟨k0, k00⟩, k1⟩, k2⟩, k3⟩, k4⟩, k5⟩, k6⟩, k7⟩, k8⟩, k9⟩, k10⟩, _⟩ := h5
        exact PS.imp (ps_setLc2 (i := i) (vs1 := gS g2) (g.g.calm hh) (by rw [g.g.hN]; exact g.g.nd) (by rw [g.g.hN]; exact h1) hl hsw (sI i1 g1' i1' g.g k7) (by rw [g.g.hN, g.g.hsc]; exact blkOk_by k1) (by rw [k2]; exact k6) (fun s H C cl fp => sg (gd_blk g.g hh s H scope cl C fp) hh g1 g1' k3) (fun s H C cl fp => sa_nil)
          (fun s H C cl fp => sI i2 g2' i2' (gd_blk g.g hh s H scope cl C fp) k8) (fun s H C cl fp => sg (gd_blk g.g hh s H scope cl C fp) hh g2 g2' k5) (fun s H C cl fp => sA cs cs' (gd_blk g.g hh s H scope cl C fp) k9) (fun s H C cl fp => sx e1 e' (gd_blk g.g hh s H scope cl C fp) k10) (folded_ok k0) (fun env => folded_ok k00)) fun D σ H ⟨z, env, S, En, p⟩ =>
          comp_lc2 g.g k2 k4 ⟨z, env, S, En, (PostS.bind (rel := rT w) (r := ev pg F (.comp2 e1 g1 i1 g2 i2 own' cs) env z.st) p En).imp fun x H1 ⟨z1, t, gg1, s1, r1, p1⟩ => set_post p1 s1 (En.go gg1) r1⟩
    | _ => exact absurd h5 Bool.false_ne_true
  · cases h
mutual
theorem sS (g : GdS w pg tb F X N sc W k) : ∀ (c : S) (st : Stmt), chS tb N sc c st = true → PS X st (tS w pg F c W)
  | .ex e, st, h => by
    cases st with
    | Expr e' pos =>
      have h : (noComp e' && chk tb N sc e e') = true := h
      rw [Bool.and_eq_true] at h
      exact ss_ex g h.1 (sx e e' g.g h.2)
    | _ => exact absurd h Bool.false_ne_true
  | .doc, st, h => by
    cases st with
    | Expr e' pos =>
      cases e' with
      | Constant kk j p =>
        cases kk with
        | str x => exact ss_doc
        | _ => exact absurd h Bool.false_ne_true
      | _ => exact absurd h Bool.false_ne_true
    | _ => exact absurd h Bool.false_ne_true
  | .set i e, st, h => by
    cases st with
    | Assign ts e' pos =>
      match ts, h with
      | [t], h =>
        cases t with
        | Name x p0 =>
          have h : (decide (N[i]? = some x) && locB sc x && (noComp e' || decide (sc.names.lookup x = some .cell)) && chk tb N sc e e') = true := h
          rw [Bool.and_eq_true, Bool.and_eq_true, Bool.and_eq_true, decide_eq_true_eq] at h
          exact ss_set g h.1.1.1 h.1.1.2 h.1.2 (sx e e' g.g h.2)
        | _ => exact absurd h Bool.false_ne_true
      | [], h => exact absurd h Bool.false_ne_true
      | t :: _ :: _, h => cases t <;> exact absurd h Bool.false_ne_true
    | _ => exact absurd h Bool.false_ne_true
  | .setC i e, st, h => ss_setC g h
  | .asg gg e, st, h => by
    cases st with
    | Assign ts e' pos =>
      match ts, h with
      | [t], h =>
        have h : (chkG N sc gg t && noComp e' && swNo sc t e' && chk tb N sc e e' && !tb.hot) = true := h
        simp only [Bool.and_eq_true]
                at h
        obtain ⟨h, hcold⟩ := h
        exact ss_asg g (g.g.tab.cold_tb hcold) h.1.1.1 h.1.1.2 h.1.2 (sx e e' g.g h.2)
    | _ => exact absurd h Bool.false_ne_true
  | .put o i e, st, h => by
    cases st with
    | Assign ts e' pos =>
      match ts, h with
      | [t], h =>
        cases t with
        | Subscript o' i' p0 =>
          have h : (noSlice i' && chk tb N sc o o' && chk tb N sc i i' && chk tb N sc e e') = true := h
          simp only [Bool.and_eq_true]
                  at h
          exact ss_put g h.1.1.1 (sx o o' g.g h.1.1.2) (sx i i' g.g h.1.2) (sx e e' g.g h.2)
        | _ => exact absurd h Bool.false_ne_true
      | [], h => exact absurd h Bool.false_ne_true
      | t :: _ :: _, h => cases t <;> exact absurd h Bool.false_ne_true
    | _ => exact absurd h Bool.false_ne_true
  | .aug i op e, st, h => by
    cases st with
    | AugAssign t op' e' pos =>
      cases t with
      | Name x p0 =>
        have h : (decide (N[i]? = some x) && locB sc x && decide (op = op') && chk tb N sc e e') = true := h
        simp only [Bool.and_eq_true,
                decide_eq_true_eq] at h
        obtain ⟨⟨⟨h1, h2⟩, rfl⟩, h3⟩ := h
        exact ss_aug g op h1 h2 (sx e e' g.g h3)
      | _ => exact absurd h Bool.false_ne_true
    | _ => exact absurd h Bool.false_ne_true
  | .ret e, st, h => by
    cases st with
    | Return v pos =>
      cases v with
      | none =>
              exact absurd h Bool.false_ne_true
      | some e' => exact ss_ret (sx e e' g.g h)
    | _ => exact absurd h Bool.false_ne_true
  | .retN, st, h => by
    cases st with
    | Return v pos =>
      cases v with
      | none => exact ss_retN
      | some e' => exact absurd h Bool.false_ne_true
    | _ => exact absurd h Bool.false_ne_true
  | .pass, st, h => by
    cases st with
    | Pass pos => exact ss_pass
    | _ => exact absurd h Bool.false_ne_true
  | .brk, st, h => by
    cases st with
    | Break pos => exact ss_brk
    | _ => exact absurd h Bool.false_ne_true
  | .cnt, st, h => by
    cases st with
    | Continue pos => exact ss_cnt
    | _ => exact absurd h Bool.false_ne_true
  | .ife c a b, st, h => by
    cases st with
    | If c' a' b' pos =>
      have h : (chkT tb N sc c c' && chSs tb N sc a a' && chSs tb N sc b b') = true := h
      simp only [Bool.and_eq_true]
              at h
      exact ss_ife (sT c c' g.g h.1.1).1 (sSs g a a' h.1.2) (sSs g b b' h.2)
    | _ => exact absurd h Bool.false_ne_true
  | .forr gg it b, st, h => by
    cases st with
    | For t it' b' o' pos =>
      match o', h with
      | [], h =>
        have h : (noSet it' && chkG N sc gg t && chkI tb N sc it t it' && chSs tb N sc b b' && !tb.hot) = true := h
        simp only [Bool.and_eq_true]
                at h
        obtain ⟨h, hcold⟩ := h
        exact ss_forr g (g.g.tab.cold_tb hcold) h.1.1.1 h.1.1.2 (sI it t it' g.g h.1.2) (sSs g b b' h.2)
    | _ => exact absurd h Bool.false_ne_true
  | .whl n c b, st, h => by
    cases st with
    | While c' b' o' pos =>
      match o', h with
      | [], h =>
        have h : (chkT tb N sc c c' && chSs tb N sc b b') = true := h
        simp only [Bool.and_eq_true]
                at h
        exact ss_whl g (sT c c' g.g h.1).1 (sSs g b b' h.2)
    | _ => exact absurd h Bool.false_ne_true
  | .frz _, st, h => absurd h Bool.false_ne_true
  | .never, st, h => PS.imp ps_never fun D σ H ⟨z, env, S, En, p⟩ => p
  | .par i j a b, st, h => by
    unfold chS at h
    split at h
    · simp only [Bool.and_eq_true, decide_eq_true_eq, Bool.not_eq_true'] at h
      obtain ⟨⟨⟨⟨⟨⟨⟨⟨⟨⟨⟨⟨⟨h1, h2⟩, h3⟩, h4⟩, h5⟩, h6⟩, h7⟩, h8⟩, h9⟩, k1⟩, k2⟩, k3⟩, k4⟩, hcold⟩ := h
      exact ss_par g (g.g.tab.cold_tb (by rw [hcold]; rfl)) h1 h2 h3 h4 h5 h6 h7 h8 h9 k1 k2 (sx a _ g.g k3) (sx b _ g.g k4)
    · cases h
  | .sub o i j e, st, h => by
    unfold chS at h
    split at h
    · simp only [Bool.and_eq_true,
            decide_eq_true_eq] at h
      obtain ⟨⟨⟨⟨⟨⟨⟨⟨h1, h2⟩, h3⟩, h4⟩, h5⟩, h6⟩, h7⟩, h8⟩, hcold⟩ := h
      exact ss_sub g (g.g.tab.cold_tb hcold) h1 h2 h3 h4 h5 (sx o _ g.g h6) (sx i _ g.g h7) (sx e _ g.g h8)
    · cases h
  | .sub2 o i o2 i2 e, st, h => by
    unfold chS at h
    split at h
    · simp only [Bool.and_eq_true] at h
      obtain ⟨⟨⟨⟨⟨⟨⟨⟨h1, h2⟩, h3⟩, h4⟩, h5⟩, h6⟩, h7⟩, h8⟩, hcold⟩ := h
      exact ss_sub2 g (g.g.tab.cold_tb hcold) h1 h2 h3 (sx o _ g.g h4) (sx i _ g.g h5) (sx o2 _ g.g h6) (sx i2 _ g.g h7) (sx e _ g.g h8)
    · cases h
  | .fput o f e, st, h => by
    unfold chS at h
    split at h
    · simp only [Bool.and_eq_true,
            decide_eq_true_eq] at h
      exact ss_fput g h.1.1 (sx o _ g.g h.1.2) (sx e _ g.g h.2)
    · cases h
theorem sSs (g : GdS w pg tb F X N sc W k) : ∀ (c : Ss) (sts : List Stmt), chSs tb N sc c sts = true → PSs X sts (tSs w pg F c W)
  | .nil, sts, h => by
    cases sts with
    | nil => exact sss_nil
    | cons _ _ => exact absurd h Bool.false_ne_true
  | .cons a r, sts, h => by
    have step : (∀ st rest, sts = st :: rest → chS tb N sc a st = true ∧ chSs tb N sc r rest = true) → sts ≠ [] → PSs X sts (tSs w pg F (.cons a r) W) := fun q ne => by
      cases sts with
      | nil => exact (ne rfl).elim
      | cons st rest =>
        obtain ⟨q1, q2⟩ := q st rest rfl
        exact sss_cons (sS g a st q1) (sSs g r rest q2)
    cases a with
    | frz i => exact sss_frz (sSs g r sts h)
    | _ =>
      refine step (fun st rest e => ?_) (fun e => ?_)
      · subst e
        exact Bool.and_eq_true_iff.mp h
      · subst e
        exact absurd h Bool.false_ne_true
end
end
end Mu
end
section
set_option Elab.async false
set_option linter.all false
set_option maxRecDepth 100000
set_option maxHeartbeats 4000010
/-! Mu, part 14: defs; the whole module, by the depth of calls. -/
namespace Mu
open PySem
open PySem.Spec
open PyProof.Rows
open L2

/-- a def: how many parameters, how many slots, its body; keep: what it makes and hands back stays a cell -/
structure Df where
  np : Nat
  nl : Nat
  body : Ss
  keep : Bool
/-- behind a def: what it hands back becomes pure, its own cells go -/
def back (keep : Bool) (st0 : Sto) (t : T) (st : Sto) : R T := if keep then .ok t st else match t with
  | .cell n => if n < st0.length then (if okDrop st0.length st0 st then .ok (.cell n) (st.take st0.length) else .bad) else (match cellO st n with
    | some ob => if ob.nt && (ob.pure.lt st0.length && okDrop st0.length st0 st) then .ok ob.pure (st.take st0.length) else .bad
    | none => .bad)
  | t => if t.lt st0.length && okDrop st0.length st0 st then .ok t (st.take st0.length) else .bad
def fnEnd (keep : Bool) (st0 : Sto) : RS → R T
  | .rt t st => back keep st0 t st
  | .nx _ st => back keep st0 .non st
  | .exc c us _ st => if T.lts st0.length us && okDrop st0.length st0 st then .exc c us (st.take st0.length) else .bad
  | _ => .bad
def run (pg : Pg) (D : Nat → Option Df) : Nat → Nat → List T → Sto → R T
  | 0, _, _, _ => .bad
  | d + 1, f, ts, st => match D f with
    | some df => if ts.length = df.np then fnEnd df.keep st (exs pg (run pg D d) df.body (ts.map some ++ List.replicate (df.nl - ts.length) none) st) else .bad
    | none => .bad
section
variable {w : Wd}
theorem back_all {z z' : Z} {H H' : Hp} {Q : VK} {E : XK} {keep : Bool} {t : T} {v : V} (S : StRel w z H) (g : Go z H z' H') (s' : StRel w z' H') (r : Rep w z'.as z'.hm t v) (p : PostG (rT w) w z H (back keep z.st t z'.st) Q E) : Q v H' := by
  cases keep with
  | true => exact p z' H' v rfl g s' r
  | false =>
    have plain : PostG (rT w) w z H (if t.lt z.st.length && okDrop z.st.length z.st z'.st then .ok t (z'.st.take z.st.length) else .bad) Q E → Q v H' := fun p => by
      cases hb : (t.lt z.st.length && okDrop z.st.length z.st z'.st) with
      | false => rw [hb] at p; exact p.elim
      | true =>
        rw [hb] at p
        rw [Bool.and_eq_true] at hb
        exact back_post S g s' hb.2 hb.1 r p
    cases t with
    | cell n =>
      have p : PostG (rT w) w z H (if n < z.st.length then (if okDrop z.st.length z.st z'.st then .ok (.cell n) (z'.st.take z.st.length) else .bad) else (match cellO z'.st n with
        | some ob => if ob.nt && (ob.pure.lt z.st.length && okDrop z.st.length z.st z'.st) then .ok ob.pure (z'.st.take z.st.length) else .bad
        | none => .bad)) Q E := p
      by_cases hn : n < z.st.length
      · rw [if_pos hn] at p
        refine plain ?_
        have : (T.cell n).lt z.st.length = true := decide_eq_true hn
        rw [this, Bool.true_and]
        exact p
      · rw [if_neg hn] at p
        cases hc : cellO z'.st n with
        | none => rw [hc] at p; exact p.elim
        | some ob =>
          rw [hc] at p
          have p : PostG (rT w) w z H (if ob.nt && (ob.pure.lt z.st.length && okDrop z.st.length z.st z'.st) then .ok ob.pure (z'.st.take z.st.length) else .bad) Q E := p
          cases hb : (ob.nt && (ob.pure.lt z.st.length && okDrop z.st.length z.st z'.st)) with
          | false => rw [hb] at p; exact p.elim
          | true =>
            rw [hb] at p
            rw [Bool.and_eq_true, Bool.and_eq_true] at hb
            obtain ⟨hnt, hb⟩ := hb
            obtain ⟨hm', s3, g3, r3⟩ := s'.freeze hnt (cellO_at hc) r
            refine back_post (E := E) (z' := ⟨z'.as, hm', z'.st.set n none⟩) S (g.trans g3) s3 (by show okDrop _ _ (z'.st.set _ _) = true; rw [okDrop_set (by omega)]; exact hb.2) (t := ob.pure) hb.1 r3 ?_
            show PostG (rT w) w z H (.ok ob.pure ((z'.st.set n none).take z.st.length)) Q E
            rw [take_set (by omega)]
            exact p
    | non => exact plain p
    | bl _ => exact plain p
    | int _ => exact plain p
    | str _ => exact plain p
    | ty _ => exact plain p
    | gl _ => exact plain p
    | tup _ => exact plain p
    | lst _ => exact plain p
    | dic _ _ => exact plain p
    | ins _ _ _ => exact plain p
    | scr _ => exact plain p
    | err _ _ _ => exact plain p
theorem fn_post {z : Z} {H : Hp} {Q : VK} {E : XK} {keep : Bool} {r : RS} (S : StRel w z H) (p : PostG (rT w) w z H (fnEnd keep z.st r) Q E) : PostS w z H r { nx := fun _ H' => Q .non H', rt := Q } (fun cls d _ H => E cls d H) := by
  cases r with
  | nx e st =>
    intro z' H' σ' e' g s' En
    subst e'
    exact back_all S g s' Rep.of_non p
  | rt t st =>
    intro z' H' v e' g s' r
    subst e'
    exact back_all S g s' r p
  | exc c us e st =>
    intro z' H' σ' cls d e' g s' En r
    subst e'
    have p : PostG (rT w) w z H (if T.lts z.st.length us && okDrop z.st.length z.st z'.st then .exc c us (z'.st.take z.st.length) else .bad) Q E := p
    cases hb : (T.lts z.st.length us && okDrop z.st.length z.st z'.st) with
    | false => rw [hb] at p; exact p.elim
    | true =>
      rw [hb] at p
      rw [Bool.and_eq_true] at hb
      exact back_exc S g s' hb.2 hb.1 r p
  | bk _ _ => exact p.elim
  | ct _ _ => exact p.elim
  | bad => exact p.elim
theorem env_start {z : Z} {N : List Str} {ts : List T} {vs : List V} (r : Reps w z.as z.hm ts vs) : EnvR w z (ts.map some ++ List.replicate (N.length - ts.length) none) (L2.start N vs) := by
  unfold L2.start
  rw [← r.length]
  refine ⟨by simp [r.length], fun i t e => ?_⟩
  by_cases hi : i < ts.length
  · rw [List.getElem?_append_left (by simpa using hi), List.getElem?_map] at e
    cases q : ts[i]? with
    | none =>
            rw [q] at e; cases e
    | some u =>
      rw [q] at e
      have e : some (some u) = some (some t) := e
      cases e
      obtain ⟨v, h1, h2⟩ := r.get q
      refine ⟨v, ?_, h2⟩
      rw [List.getElem?_append_left (by rw [List.length_map, ← r.length]; exact hi), List.getElem?_map, h1]
      rfl
  · rw [List.getElem?_append_right (by simpa using hi), List.getElem?_replicate] at e
    split at e <;> cases e
/-- what is known of a def, whatever the depth -/
structure DOk (tb : Tab) (D : Nat → Option Df) (w : Wd) (f : Nat) (a : Addr) (fd : FuncData) (ps : List Str) : Prop where
  ex : ∃ (x qual : Str) (st : Stmt) (N : List Str) (df : Df), D f = some df ∧ Fun w.K x qual st a fd ∧ FnScope N ps (defScope st) ∧ N.length = df.nl ∧ ps.length = df.np ∧ chSs tb N (defScope st) df.body (defBody st) = true ∧ ∀ q c P, w.cs q = some (c, P) → tb.name q ∈ N → (qual ++ ".<locals>.") ++ ("<lambda>" : Str) = tb.name q ∧ fd.code = .ref c
  bi : Binds w.K fd ps []
variable {pg : Pg} {tb : Tab} {D : Nat → Option Df} {P : Program} {W' : World} {mg : Str → Option Value} {base : Heap} {k d : Nat}
theorem fn_ok {f : Nat} {a : Addr} {fd : FuncData} {ps : List Str} (hot : w.hot = false) (o : DOk tb D w f a fd ps) (T0 : TabOk w pg tb (run pg D d) P W' mg base k) : FnG P W' w.K mg base (k + 2) a fd ps (spF w (run pg D (d + 1)) f) := by
  obtain ⟨x, qual, st, N, df, hD, Fu, S, hn, hp, hc, hlam⟩ := o.ex
  have eq : ∀ ts st, run pg D (d + 1) f ts st = if ts.length = df.np then fnEnd df.keep st (exs pg (run pg D d) df.body (ts.map some ++ List.replicate (df.nl - ts.length) none) st) else .bad := fun ts st => by
    show (match D f with
      | some df => if ts.length = df.np then fnEnd df.keep st (exs pg (run pg D d) df.body (ts.map some ++ List.replicate (df.nl - ts.length) none) st) else .bad
      | none => .bad) = _
    rw [hD]
  have len : ∀ (vs : List V) (H : Hp) (Q : VK) (E : XK), spF w (run pg D (d + 1)) f vs H Q E → vs.length = ps.length := fun vs H Q E ⟨z, ts, S0, rs, p⟩ => by
    rw [eq] at p
    by_cases hl : ts.length = df.np
    · rw [← rs.length, hl, hp]
    · rw [if_neg hl] at p
      exact p.elim
  refine fnG (k := k + 1) Fu S len fun cdv hcd A outer s H vs Q E hr gu ⟨z, ts, S0, rs, p⟩ => ?_
  rw [eq] at p
  by_cases hl : ts.length = df.np
  · rw [if_pos hl] at p
    have g : GdS w pg tb (run pg D d) (cxOf (L2.CX P W') P W' w.K mg base N qual (defScope st) a cdv A outer s H E) N (defScope st) (fun cls d _ H => E cls d H) k := by
      refine ⟨⟨rfl, rfl, rfl, fun _ h => h, fun _ h => ⟨h, rfl⟩, S.nd, fun _ => rfl, fun _ => hr, hr.un, fun a d c e => by (rw [T0.er0 hot] at e; cases e), gu, ?_, T0, fun q c P h1 h2 => by rw [T0.nm] at h2 ⊢; obtain ⟨k1, k2⟩ := hlam q c P h1 h2; exact ⟨k1, hcd.symm.trans k2⟩⟩, passes_of rfl, S.kind⟩
      exact takes_of (E₁ := _) rfl rfl rfl rfl
    refine ⟨_, sSs g df.body (defBody st) hc, z, ts.map some ++ List.replicate (df.nl - ts.length) none, S0, ?_, fn_post S0 p⟩
    rw [← hn]
    exact env_start rs
  · rw [if_neg hl] at p
    exact p.elim
/-- what is known of the module, whatever the depth -/
structure Base (w : Wd) (pg : Pg) (tb : Tab) (D : Nat → Option Df) (mg : Str → Option Value) : Prop where
  kit : KitOk w pg
  nm : ∀ n, w.nm n = tb.name n
  free : ∀ x ∈ tb.free, mg x = none
  gl : ∀ (c : Nat) x, tb.gl[c]? = some x → mg x = some (.ref (w.ad c))
  gc : ∀ x t, (x, t) ∈ tb.gc → ∃ u v, mg x = some u ∧ L2.RelV v u ∧ ∀ as H, Rep w as H t v
  kb : ∀ (f : Nat) x ks pm, tb.fn[f]? = some x → (f, ks, pm) ∈ tb.kb → ∃ a fd ps, mg x = some (.ref a) ∧ PySem.W.keepIn w.K (.ref a) = true ∧ DOk tb D w f a fd ps ∧ KB w.K fd ps ks pm ∧ pm.length = ps.length
  mks : ∀ c ∈ tb.cl, (pg.cls c).isSome = true
  fn : ∀ (f : Nat) x, tb.fn[f]? = some x → ∃ a fd ps, mg x = some (.ref a) ∧ PySem.W.keepIn w.K (.ref a) = true ∧ DOk tb D w f a fd ps
  cls : ∀ c cl, pg.cls c = some cl → Cls w.K (w.ad c) ∧ (∀ f ∈ cl.fs, NoAttr w.K (w.ad c) (w.nm f)) ∧ (∀ f ∈ cl.fs, ∀ g, g ∈ cl.fs ∨ g ∈ cl.ms.map (·.1) → w.nm f = w.nm g → f = g) ∧
    (∃ G fd ps, Mk w.K (w.ad c) G ∧ DOk tb D w cl.init G fd ps) ∧ ∀ m f, (m, f) ∈ cl.ms → ∃ a fd ps, Meth w.K (w.ad c) (w.nm m) a ∧ DOk tb D w f a fd ps
  kc : ∀ c cl ks pm, pg.cls c = some cl → (c, ks, pm) ∈ tb.kc → ∃ G fd ps, Mk w.K (w.ad c) G ∧ DOk tb D w cl.init G fd ps ∧ KBm w.K fd ps ks pm
  km : ∀ c cl m f ks pm, pg.cls c = some cl → (m, f) ∈ cl.ms → (f, ks, pm) ∈ tb.km → ∃ a fd ps, Meth w.K (w.ad c) (w.nm m) a ∧ DOk tb D w f a fd ps ∧ KBm w.K fd ps ks pm
theorem fn_zero {f : Nat} {a : Addr} {fd : FuncData} {ps : List Str} : FnG P W' w.K mg base 0 a fd ps (spF w (run pg D 0) f) :=
  ⟨fun vs H Q E ⟨z, ts, _, _, p⟩ => p.elim, fun A outer s H args us vs Q E _ _ _ _ _ ⟨z, ts, _, _, p⟩ => p.elim⟩
theorem tab_of (b : Base w pg tb D mg) (hot : w.hot = false) (her : w.er = none) (ht : ∀ q c P, w.cs q = some (c, P) → LamX.TabB base mg c P) : ∀ d : Nat, TabOk w pg tb (run pg D d) P W' mg base (2 * d)
  | 0 => ⟨b.kit, b.nm, b.free, fun f x h => let ⟨a, fd, ps, h1, h2, h3⟩ := b.fn f x h; ⟨a, fd, ps, h1, h2, fn_zero, h3.bi⟩, b.gl, b.gc, fun f x ks pm q1 q2 => let ⟨a, fd, ps, h1, h2, h3, h4, h5⟩ := b.kb f x ks pm q1 q2; ⟨a, fd, ps, h1, h2, fn_zero, h4, h5⟩, b.mks, fun c cl h => let ⟨h1, h2, h3, ⟨G, fd, ps, h4, h5⟩, h6⟩ := b.cls c cl h;
    ⟨h1, h2, h3, ⟨G, fd, ps, h4, fn_zero, h5.bi⟩, fun m f hm => let ⟨a, fd, ps, q1, q2⟩ := h6 m f hm; ⟨a, fd, ps, q1, fn_zero, q2.bi⟩⟩,
    fun c cl ks pm h1 h2 => let ⟨G, fd, ps, h3, h4, h5⟩ := b.kc c cl ks pm h1 h2; ⟨G, fd, ps, h3, fn_zero, h5⟩, fun c cl m f ks pm h1 h2 h3 => let ⟨a, fd, ps, h4, h5, h6⟩ := b.km c cl m f ks pm h1 h2 h3; ⟨a, fd, ps, h4, fn_zero, h6⟩, ht, fun _ => her, fun e => absurd (hot.symm.trans e) Bool.false_ne_true⟩
  | d + 1 => by
    have T0 := tab_of b hot her ht d
    exact ⟨b.kit, b.nm, b.free, fun f x h => let ⟨a, fd, ps, h1, h2, h3⟩ := b.fn f x h; ⟨a, fd, ps, h1, h2, fn_ok hot h3 T0, h3.bi⟩, b.gl, b.gc, fun f x ks pm q1 q2 => let ⟨a, fd, ps, h1, h2, h3, h4, h5⟩ := b.kb f x ks pm q1 q2; ⟨a, fd, ps, h1, h2, fn_ok hot h3 T0, h4, h5⟩, b.mks, fun c cl h => let ⟨h1, h2, h3, ⟨G, fd, ps, h4, h5⟩, h6⟩ := b.cls c cl h;
      ⟨h1, h2, h3, ⟨G, fd, ps, h4, fn_ok hot h5 T0, h5.bi⟩, fun m f hm => let ⟨a, fd, ps, q1, q2⟩ := h6 m f hm; ⟨a, fd, ps, q1, fn_ok hot q2 T0, q2.bi⟩⟩,
      fun c cl ks pm h1 h2 => let ⟨G, fd, ps, h3, h4, h5⟩ := b.kc c cl ks pm h1 h2; ⟨G, fd, ps, h3, fn_ok hot h4 T0, h5⟩, fun c cl m f ks pm h1 h2 h3 => let ⟨a, fd, ps, h4, h5, h6⟩ := b.km c cl m f ks pm h1 h2 h3; ⟨a, fd, ps, h4, fn_ok hot h5 T0, h6⟩, ht, fun _ => her, fun e => absurd (hot.symm.trans e) Bool.false_ne_true⟩
end
end Mu
end
section
set_option Elab.async false
set_option linter.all false
set_option maxRecDepth 100000
set_option maxHeartbeats 4000010
/-! Mu, part 15: the law's own end. -/
namespace Mu
open PySem
open PySem.Spec
open PyProof.Rows
open L2
section
variable {w : Wd} {pg : Pg} {tb : Tab} {D : Nat → Option Df} {P : Program} {W' : World} {mg : Str → Option Value} {base : Heap} {d f n : Nat} {a : Addr} {fd : FuncData} {ps : List Str}
theorem sp_law {H : Hp} {ns : List Int} (h : ∃ st', run pg D d f [.scr ns] [] = .ok (.bl true) st') (S : SqL w.K H a (ns.map V.int)) : spF w (run pg D d) f [.ref a] H (fun v _ => v = .bl true) (fun _ _ _ => False) := by
  obtain ⟨st', e⟩ := h
  refine ⟨⟨[], H, []⟩, [.scr ns], ⟨rfl, fun i j a h => by simp at h, fun _ _ h => h, fun n a h => by simp at h, fun n o h => by simp at h, fun n q h => by simp at h⟩, Reps.cons ?_ Reps.nil, ?_⟩
  · unfold Rep
    exact ⟨a, rfl, S⟩
  · show PostG (rT w) w _ H (run pg D d f [.scr ns] []) _ _
    rw [e]
    intro z' H' v e' g s r
    exact r.bl_inv
/-- what the library's end asks of a law, from the module's facts and from what the evaluator says -/
theorem law_end (b : Base w pg tb D mg) (hot : w.hot = false) (her : w.er = none) (hcs : ∀ q, w.cs q = none) (o : DOk tb D w f a fd ps) (h : ∀ ns : List Int, ns.length ≤ n → ∃ st', run pg D (d + 1) f [.scr ns] [] = .ok (.bl true) st') :
    (∀ (H : Hp) (p : Addr) (ns : List Int), ns.length ≤ n → Only H → SqL w.K H p (ns.map V.int) → spF w (run pg D (d + 1)) f [.ref p] H (fun v _ => v = .bl true) fun _ _ _ => False) ∧
      ∀ base : Heap, FnG P W' w.K mg base (2 * d + 2) a fd ps (spF w (run pg D (d + 1)) f) :=
  ⟨fun H p ns hl _ hS => sp_law (h ns hl) hS, fun base => fn_ok hot o (tab_of b hot her (fun q c P e => by rw [hcs q] at e; cases e) d)⟩
/-- the store at the law's entry: its tables -/
def tabsO (qs : List Nat) : Sto := qs.map fun q => some (.tab q)
def tabA (w : Wd) (q : Nat) : Addr := match w.cs q with
  | some (_, P) => P
  | none => 0
theorem sp_lawT {qs : List Nat} {H : Hp} {ns : List Int} (hq : ∀ q ∈ qs, ∃ c P, w.cs q = some (c, P) ∧ H P = some (.tbl #[])) (nd : (qs.map (tabA w)).Nodup) (h : ∃ st', run pg D d f [.scr ns] (tabsO qs) = .ok (.bl true) st') (S : SqL w.K H a (ns.map V.int)) :
    spF w (run pg D d) f [.ref a] H (fun v _ => v = .bl true) (fun _ _ _ => False) := by
  obtain ⟨st', e⟩ := h
  have tA : ∀ q ∈ qs, H (tabA w q) = some (.tbl #[]) ∧ ∃ c, w.cs q = some (c, tabA w q) := fun q hm => by
    obtain ⟨c, P, e1, e2⟩ := hq q hm
    have : tabA w q = P := by unfold tabA; rw [e1]
    rw [this]
    exact ⟨e2, c, e1⟩
  have isT : ∀ b ∈ qs.map (tabA w), H b = some (.tbl #[]) := fun b hb => by
    obtain ⟨q, hm, e⟩ := List.mem_map.mp hb
    rw [← e]
    exact (tA q hm).1
  refine ⟨⟨qs.map (tabA w), fun b => if b ∈ qs.map (tabA w) then none else H b, tabsO qs⟩, [.scr ns], ⟨by simp [tabsO], fun i j b h1 h2 => ?_, fun b o h => ?_, fun m b h => ?_, fun m o h => ?_, fun m q h => ?_⟩, Reps.cons ?_ Reps.nil, ?_⟩
  · have h1 : (qs.map (tabA w))[i]? = some b := h1
    have h2 : (qs.map (tabA w))[j]? = some b := h2
    exact (List.getElem?_inj (List.getElem?_eq_some_iff.mp h1).1 nd).mp (h1.trans h2.symm)
  · have h : (if b ∈ qs.map (tabA w) then none else H b) = some o := h
    by_cases hb : b ∈ qs.map (tabA w)
    · rw [if_pos hb]
            at h; cases h
    · rw [if_neg hb] at h; exact h
  · exact ⟨_, isT b (List.mem_of_getElem? h)⟩
  · have h : (tabsO qs)[m]? = some (some o) := h
    unfold tabsO at h
    rw [List.getElem?_map] at h
    cases hm : qs[m]? with
    | none =>
            rw [hm] at h; cases h
    | some q =>
      rw [hm] at h
      have h : some (some (O.tab q)) = some (some o) := h
      cases h
      have mem := List.mem_of_getElem? hm
      refine ⟨tabA w q, .tbl #[], ?_, ?_, (tA q mem).1, #[], rfl, True.intro, fun pos cv hc => ?_⟩
      · show (qs.map (tabA w))[m]? = _
        rw [List.getElem?_map, hm]
        rfl
      · exact if_pos (List.mem_map_of_mem mem)
      · have z : codeAmong pos [] = some cv := hc
        simp [codeAmong] at z
  · have h : (tabsO qs)[m]? = some (some (.tab q)) := h
    unfold tabsO at h
    rw [List.getElem?_map] at h
    cases hm : qs[m]? with
    | none =>
            rw [hm] at h; cases h
    | some q' =>
      rw [hm] at h
      have h : some (some (O.tab q')) = some (some (O.tab q)) := h
      cases h
      obtain ⟨c, e1⟩ := (tA q (List.mem_of_getElem? hm)).2
      exact ⟨c, _, e1, by show (qs.map (tabA w))[m]? = _; rw [List.getElem?_map, hm]; rfl⟩
  · unfold Rep
    refine ⟨a, rfl, ?_⟩
    rcases S with S | S
    · left
      have na : a ∉ qs.map (tabA w) := fun hm => by
        have e := isT a hm
        rcases S with k | ⟨o, k⟩
        · rw [e] at k; cases k
        · rw [e] at k; cases k
      rcases S with k | ⟨o, k⟩
      · exact .inl ((if_neg na).trans k)
      · exact .inr ⟨o, (if_neg na).trans k⟩
    · exact .inr S
  · show PostG (rT w) w _ H (run pg D d f [.scr ns] (tabsO qs)) _ _
    rw [e]
    intro z' H' v e' g s r
    exact r.bl_inv
theorem law_endT {qs : List Nat} (b : Base w pg tb D mg) (hot : w.hot = false) (her : w.er = none) (o : DOk tb D w f a fd ps) (nd : (qs.map (tabA w)).Nodup) (h : ∀ ns : List Int, ns.length ≤ n → ∃ st', run pg D (d + 1) f [.scr ns] (tabsO qs) = .ok (.bl true) st') :
    (∀ (H : Hp) (p : Addr) (ns : List Int), ns.length ≤ n → (∀ q ∈ qs, ∃ c P, w.cs q = some (c, P) ∧ H P = some (.tbl #[])) → SqL w.K H p (ns.map V.int) → spF w (run pg D (d + 1)) f [.ref p] H (fun v _ => v = .bl true) fun _ _ _ => False) ∧
      ∀ base : Heap, (∀ q c P, w.cs q = some (c, P) → LamX.TabB base mg c P) → FnG P W' w.K mg base (2 * d + 2) a fd ps (spF w (run pg D (d + 1)) f) :=
  ⟨fun H p ns hl hT hS => sp_lawT hT nd (h ns hl) hS, fun base ht => fn_ok hot o (tab_of b hot her ht d)⟩
end
end Mu
end
section
set_option Elab.async false
set_option linter.all false
set_option maxRecDepth 100000
set_option maxHeartbeats 400001
set_option exponentiation.threshold 3000
/-! Mu, part X: running the compact syntax by rewriting. -/
namespace Mu
open PySem
/-! ### ways on, taken one at a time -/
theorem bind_congr {a b : Type} {r r' : R a} {k : a → Sto → R b} (h : r = r') : R.bind r k = R.bind r' k := by rw [h]
theorem toS_congr {a : Type} {r r' : R a} {env : Env} {k : a → Sto → RS} (h : r = r') : R.toS r env k = R.toS r' env k := by rw [h]
def RS.seq : RS → (Env → Sto → RS) → RS
  | .nx e st, k => k e st
  | .rt t st, _ => .rt t st
  | .bk e st, _ => .bk e st
  | .ct e st, _ => .ct e st
  | .exc c ts e st, _ => .exc c ts e st
  | .bad, _ => .bad
theorem seq_congr {r r' : RS} {k : Env → Sto → RS} (h : r = r') : RS.seq r k = RS.seq r' k := by rw [h]
def onO {a b : Type} (o : Option a) (k : a → b) (d : b) : b := match o with
  | some x => k x
  | none => d
theorem onO_congr {a b : Type} {o o' : Option a} {k : a → b} {d : b} (h : o = o') : onO o k d = onO o' k d := by rw [h]
def onB {b : Type} (c : Bool) (x y : b) : b := if c = true then x else y
theorem onB_congr {b : Type} {c c' : Bool} {x y : b} (h : c = c') : onB c x y = onB c' x y := by rw [h]
theorem ofO_on {st : Sto} {o : Option T} : ofO st o = onO o (fun t => .ok t st) .bad := by cases o <;> rfl
theorem XK : (∀ {a b : Type} {x : a} {k : a → b} {d : b}, onO (some x) k d = k x) ∧ (∀ {a b : Type} {k : a → b} {d : b}, onO none k d = d) ∧ (∀ {b : Type} {x y : b}, onB true x y = x) ∧ (∀ {b : Type} {x y : b}, onB false x y = y) ∧
    (∀ {a b : Type} {x : a} {st : Sto} {k : a → Sto → R b}, R.bind (.ok x st) k = k x st) ∧ (∀ {a b : Type} {c ts} {st : Sto} {k : a → Sto → R b}, R.bind (.exc c ts st) k = .exc c ts st) ∧
    (∀ {a : Type} {x : a} {st : Sto} {env : Env} {k : a → Sto → RS}, R.toS (.ok x st) env k = k x st) ∧ (∀ {a : Type} {c ts} {st : Sto} {env : Env} {k : a → Sto → RS}, R.toS (.exc c ts st) env k = .exc c ts env st) ∧
    (∀ {e : Env} {st : Sto} {k : Env → Sto → RS}, RS.seq (.nx e st) k = k e st) ∧ (∀ {t : T} {st : Sto} {k : Env → Sto → RS}, RS.seq (.rt t st) k = .rt t st) ∧
    (∀ {e : Env} {st : Sto} {k : Env → Sto → RS}, RS.seq (.ct e st) k = .ct e st) ∧ (∀ {e : Env} {st : Sto} {k : Env → Sto → RS}, RS.seq (.bk e st) k = .bk e st) ∧ (∀ {c ts} {e : Env} {st : Sto} {k : Env → Sto → RS}, RS.seq (.exc c ts e st) k = .exc c ts e st) :=
  ⟨rfl, rfl, rfl, rfl, rfl, rfl, rfl, rfl, rfl, rfl, rfl, rfl, rfl⟩
theorem on_some {a b : Type} {o : Option a} {k : a → b} {d : b} : (match o with | some x => k x | none => d) = onO o k d := by cases o <;> rfl
theorem bindE {a b : Type} {r : R a} {k k' : a → Sto → R b} (h : ∀ x st, k x st = k' x st) : R.bind r k = R.bind r k' := by rw [show k = k' from funext fun x => funext fun st => h x st]
theorem toSE {a : Type} {r : R a} {env : Env} {k k' : a → Sto → RS} (h : ∀ x st, k x st = k' x st) : R.toS r env k = R.toS r env k' := by rw [show k = k' from funext fun x => funext fun st => h x st]
/-! ### fields, methods -/
def fldV (pg : Pg) (st : Sto) (x : T) (f : Nat) : R T := match insOf st x with
  | some (c, fs, ts) => match pg.cls c with
    | some cl => if f ∈ cl.fs ∧ (∀ g ∈ fs, g ∈ cl.fs) then ofO st (findF f fs ts) else .bad
    | none => .bad
  | none => .bad
def omV (pg : Pg) (st : Sto) (x : T) (m : Nat) : Option Nat := match insOf st x with
  | some (c, fs, _) => match pg.cls c with
    | some cl => match lookM m cl.ms with
      | some f => if m ∉ cl.fs ∧ (∀ g ∈ fs, g ∈ cl.fs) then some f else none
      | none => none
    | none => none
  | none => none
def cmpK (k : Bool) (n : Nat) (r : R (List T)) : R T := if n ≤ 1000000 then (match r with
    | .ok ys st => mkO k st (.lst ys)
    | _ => .bad) else .bad
def cmp2K (n : Nat) (r : R (List T)) : R T := if n ≤ 4000 then (match r with
    | .ok ys st => .ok (.lst ys) st
    | _ => .bad) else .bad
theorem cmpK_congr {k : Bool} {n : Nat} {r r' : R (List T)} (h : r = r') : cmpK k n r = cmpK k n r' := by rw [h]
/-! ### ways on, by their names -/
def Kok (st : Sto) (t : T) : R T := .ok t st
def KokBl (st : Sto) (b : Bool) : R T := .ok (.bl b) st
def KokB (st : Sto) (b : Bool) : R Bool := .ok b st
def KokL (st : Sto) (ts : List T) : R (List T) := .ok ts st
def KokE (st : Sto) (ts : List T) : R (List T) := .ok (enumT 0 ts) st
def Kbin2 (op : Operator) (x y : T) (st : Sto) : R T := onO (binV op x y) (Kok st) .bad
def Kbin1 (pg : Pg) (F : Nat → List T → Sto → R T) (op : Operator) (b : X) (env : Env) (x : T) (st : Sto) : R T := R.bind (ev pg F b env st) (Kbin2 op x)
def Kcmp2 (op : CmpOp) (x y : T) (st : Sto) : R T := onO (cmpT st op x y) (KokBl st) .bad
def Kcmp1 (pg : Pg) (F : Nat → List T → Sto → R T) (op : CmpOp) (b : X) (env : Env) (x : T) (st : Sto) : R T := R.bind (ev pg F b env st) (Kcmp2 op x)
def Ktcmp2 (op : CmpOp) (x y : T) (st : Sto) : R Bool := onO (cmpT st op x y) (KokB st) .bad
def Ktcmp1 (pg : Pg) (F : Nat → List T → Sto → R T) (op : CmpOp) (b : X) (env : Env) (x : T) (st : Sto) : R Bool := R.bind (ev pg F b env st) (Ktcmp2 op x)
def Kchn3 (pg : Pg) (F : Nat → List T → Sto → R T) (p : CmpOp) (c : X) (env : Env) (y : T) (st : Sto) (q : Bool) : R T := match q with | true => R.bind (ev pg F c env st) (Kcmp2 p y) | false => .ok (.bl false) st
def Kchn2 (pg : Pg) (F : Nat → List T → Sto → R T) (o p : CmpOp) (c : X) (env : Env) (x y : T) (st : Sto) : R T := onO (cmpT st o x y) (Kchn3 pg F p c env y st) .bad
def Kchn1 (pg : Pg) (F : Nat → List T → Sto → R T) (o p : CmpOp) (b c : X) (env : Env) (x : T) (st : Sto) : R T := R.bind (ev pg F b env st) (Kchn2 pg F o p c env x)
def Ktchn3 (pg : Pg) (F : Nat → List T → Sto → R T) (p : CmpOp) (c : X) (env : Env) (y : T) (st : Sto) (q : Bool) : R Bool := match q with | true => R.bind (ev pg F c env st) (Ktcmp2 p y) | false => .ok false st
def Ktchn2 (pg : Pg) (F : Nat → List T → Sto → R T) (o p : CmpOp) (c : X) (env : Env) (x y : T) (st : Sto) : R Bool := onO (cmpT st o x y) (Ktchn3 pg F p c env y st) .bad
def Ktchn1 (pg : Pg) (F : Nat → List T → Sto → R T) (o p : CmpOp) (b c : X) (env : Env) (x : T) (st : Sto) : R Bool := R.bind (ev pg F b env st) (Ktchn2 pg F o p c env x)
def Kand2 (pg : Pg) (F : Nat → List T → Sto → R T) (b : X) (env : Env) (x : T) (st : Sto) (q : Bool) : R T := match q with | true => ev pg F b env st | false => .ok x st
def Kand1 (pg : Pg) (F : Nat → List T → Sto → R T) (b : X) (env : Env) (x : T) (st : Sto) : R T := onO (truV st x) (Kand2 pg F b env x st) .bad
def Kor2 (pg : Pg) (F : Nat → List T → Sto → R T) (b : X) (env : Env) (x : T) (st : Sto) (q : Bool) : R T := match q with | true => .ok x st | false => ev pg F b env st
def Kor1 (pg : Pg) (F : Nat → List T → Sto → R T) (b : X) (env : Env) (x : T) (st : Sto) : R T := onO (truV st x) (Kor2 pg F b env x st) .bad
def Knot2 (st : Sto) (q : Bool) : R T := .ok (.bl (!q)) st
def Knot1 (x : T) (st : Sto) : R T := onO (truV st x) (Knot2 st) .bad
def Kneg (x : T) (st : Sto) : R T := match x with | .int i => .ok (.int (-i)) st | _ => .bad
def Kite (pg : Pg) (F : Nat → List T → Sto → R T) (a b : X) (env : Env) (q : Bool) (st : Sto) : R T := match q with | true => ev pg F a env st | false => ev pg F b env st
def Ktup (ts : List T) (st : Sto) : R T := if ts.length ≤ big then .ok (.tup ts) st else .bad
def Klst (k : Bool) (ts : List T) (st : Sto) : R T := if ts.length ≤ big then mkO k st (.lst ts) else .bad
def Kcl (F : Nat → List T → Sto → R T) (f : Nat) (ts : List T) (st : Sto) : R T := F f ts st
def Kclk (F : Nat → List T → Sto → R T) (f : Nat) (pm : List Nat) (n : Nat) (ts : List T) (st : Sto) : R T := if (decide (ts.length = n) && pm.all (fun i => decide (i < ts.length))) = true then F f (pm.map fun i => ts.getD i .non) st else .bad
def Kbl (pg : Pg) (b : B) (ts : List T) (st : Sto) : R T := onO (blT pg st b ts) (Kok st) .bad
def dmkK (k : Bool) (o : Option (List (Ky × T))) (st : Sto) : R T := match o with
  | some ps => if ps.length ≤ big then mkO k st (.dic (dicP ps).1 (dicP ps).2) else .bad
  | none => .bad
def Kdmk (k : Bool) (x : T) (st : Sto) : R T := dmkK k ((lstOf st x).bind pairsT) st
def dcmK (k : Bool) (n : Nat) (r : R (List T)) : R T := if n ≤ 1000000 then (match r with
    | .ok ys st => (match pairsT ys with
      | some ps => mkO k st (.dic (dicP ps).1 (dicP ps).2)
      | none => .bad)
    | _ => .bad) else .bad
def Kdc2 (y z : T) (st : Sto) : R T := if (keyT y).isSome = true then .ok (.tup [y, z]) st else .bad
def Kdc1 (pg : Pg) (F : Nat → List T → Sto → R T) (e : X) (env : Env) (y : T) (st : Sto) : R T := R.bind (ev pg F e env st) (Kdc2 y)
def dcV (pg : Pg) (F : Nat → List T → Sto → R T) (ek e : X) (env : Env) (st : Sto) : R T := R.bind (ev pg F ek env st) (Kdc1 pg F e env)
def Kdcomp (pg : Pg) (F : Nat → List T → Sto → R T) (k : Bool) (ek e : X) (g : G) (own : List Nat) (cs : Xs) (env : Env) (ts : List T) (st : Sto) : R T := dcmK k ts.length (compGo g own env (evA pg F cs) (dcV pg F ek e) ts st)
def Kmk (pg : Pg) (F : Nat → List T → Sto → R T) (c : Nat) (ts : List T) (st : Sto) : R T := instNew pg F c ts st
def Kix2 (x y : T) (st : Sto) : R T := onO (ixT st x y) (Kok st) .bad
def Kix1 (pg : Pg) (F : Nat → List T → Sto → R T) (b : X) (env : Env) (x : T) (st : Sto) : R T := R.bind (ev pg F b env st) (Kix2 x)
def Ksl3 (x : T) (l h : Option Int) (st : Sto) : R T := onO (slT st x l h) (Kok st) .bad
def Ksl2 (pg : Pg) (F : Nat → List T → Sto → R T) (hi : Xs) (env : Env) (x : T) (l : Option Int) (st : Sto) : R T := R.bind (evO pg F hi env st) (Ksl3 x l)
def Ksl1 (pg : Pg) (F : Nat → List T → Sto → R T) (lo hi : Xs) (env : Env) (x : T) (st : Sto) : R T := R.bind (evO pg F lo env st) (Ksl2 pg F hi env x)
def Kcons2 (x : T) (xs : List T) (st : Sto) : R (List T) := .ok (x :: xs) st
def Kcons1 (pg : Pg) (F : Nat → List T → Sto → R T) (r : Xs) (env : Env) (x : T) (st : Sto) : R (List T) := R.bind (evs pg F r env st) (Kcons2 x)
def KevO (x : T) (st : Sto) : R (Option Int) := match x with | .int i => .ok (some i) st | _ => .bad
def Kfld (pg : Pg) (f : Nat) (x : T) (st : Sto) : R T := fldV pg st x f
def Kom3 (F : Nat → List T → Sto → R T) (f : Nat) (x : T) (ts : List T) (st : Sto) : R T := F f (x :: ts) st
def Kom2 (pg : Pg) (F : Nat → List T → Sto → R T) (es : Xs) (env : Env) (x : T) (st : Sto) (f : Nat) : R T := R.bind (evs pg F es env st) (Kom3 F f x)
def Kom1 (pg : Pg) (F : Nat → List T → Sto → R T) (m : Nat) (es : Xs) (env : Env) (x : T) (st : Sto) : R T := onO (omV pg st x m) (Kom2 pg F es env x st) .bad
def Kmt2 (m : M) (x : T) (ts : List T) (st : Sto) : R T := mtT st m x ts
def Kmt1 (pg : Pg) (F : Nat → List T → Sto → R T) (m : M) (es : Xs) (env : Env) (x : T) (st : Sto) : R T := if rcv st m x then R.bind (evs pg F es env st) (Kmt2 m x) else .bad
def Kcomp (pg : Pg) (F : Nat → List T → Sto → R T) (k : Bool) (e : X) (g : G) (own : List Nat) (cs : Xs) (env : Env) (ts : List T) (st : Sto) : R T := cmpK k ts.length (compGo g own env (evA pg F cs) (ev pg F e) ts st)
def Kcomp2 (pg : Pg) (F : Nat → List T → Sto → R T) (e : X) (g1 g2 : G) (i2 : X) (own : List Nat) (cs : Xs) (env : Env) (ts : List T) (st : Sto) : R T := cmp2K ts.length (comp2Go g1 g2 own (gS g2) env (evI pg F i2) (evA pg F cs) (ev pg F e) ts st)
def Ktand (pg : Pg) (F : Nat → List T → Sto → R T) (b : X) (env : Env) (q : Bool) (st : Sto) : R Bool := match q with | true => evT pg F b env st | false => .ok false st
def Ktor (pg : Pg) (F : Nat → List T → Sto → R T) (b : X) (env : Env) (q : Bool) (st : Sto) : R Bool := match q with | true => .ok true st | false => evT pg F b env st
def Ktnot (q : Bool) (st : Sto) : R Bool := .ok (!q) st
def Ktr (x : T) (st : Sto) : R Bool := onO (truV st x) (KokB st) .bad
def Krng1 (x : T) (st : Sto) : R (List T) := match x with | .int j => if -(2 ^ 62) ≤ j ∧ j < 2 ^ 62 then .ok (rangeT 0 j) st else .bad | _ => .bad
def Krng2b (x y : T) (st : Sto) : R (List T) := match x, y with | .int i, .int j => if -(2 ^ 62) ≤ i ∧ i < 2 ^ 62 ∧ -(2 ^ 62) ≤ j ∧ j < 2 ^ 62 then .ok (rangeT i j) st else .bad | _, _ => .bad
def Krng2a (pg : Pg) (F : Nat → List T → Sto → R T) (b : X) (env : Env) (x : T) (st : Sto) : R (List T) := R.bind (ev pg F b env st) (Krng2b x)
def Kenum (x : T) (st : Sto) : R (List T) := onO (itemsOf st x) (KokE st) .bad
def Kzip2 (x y : T) (st : Sto) : R (List T) := onO (zipOf st x y) (KokL st) .bad
def Kzip1 (pg : Pg) (F : Nat → List T → Sto → R T) (b : X) (env : Env) (x : T) (st : Sto) : R (List T) := R.bind (ev pg F b env st) (Kzip2 x)
def Kit (x : T) (st : Sto) : R (List T) := onO (itemsOf st x) (KokL st) .bad
def Knx (env : Env) (st : Sto) : RS := .nx env st
def Kenv (st : Sto) (env : Env) : RS := .nx env st
def Kex (env : Env) (t : T) (st : Sto) : RS := .nx env st
def Kset (i : Nat) (env : Env) (t : T) (st : Sto) : RS := setS i t env st
def Kasg (g : G) (env : Env) (t : T) (st : Sto) : RS := onO (bindG g t env) (Kenv st) .bad
def Kpar2 (i j : Nat) (env : Env) (u v : T) (st : Sto) : RS := if i < env.length ∧ j < env.length then .nx ((env.set i (some u)).set j (some v)) st else .bad
def Kpar1 (pg : Pg) (F : Nat → List T → Sto → R T) (i j : Nat) (b : X) (env : Env) (u : T) (st : Sto) : RS := R.toS (ev pg F b env st) env (Kpar2 i j env u)
def Kput3 (env : Env) (v x y : T) (st : Sto) : RS := onO (putT st x y v) (Knx env) .bad
def Kput2 (pg : Pg) (F : Nat → List T → Sto → R T) (i : X) (env : Env) (v x : T) (st : Sto) : RS := R.toS (ev pg F i env st) env (Kput3 env v x)
def Kput1 (pg : Pg) (F : Nat → List T → Sto → R T) (o i : X) (env : Env) (v : T) (st : Sto) : RS := R.toS (ev pg F o env st) env (Kput2 pg F i env v)
def Ktwo5 (env : Env) (v x y : T) (st : Sto) : RS := onO (putT st x y v) (Knx env) .bad
def Ktwo4 (pg : Pg) (F : Nat → List T → Sto → R T) (i2 : X) (env : Env) (v x : T) (st : Sto) : RS := R.toS (ev pg F i2 env st) env (Ktwo5 env v x)
def Ktwo3b (pg : Pg) (F : Nat → List T → Sto → R T) (o2 i2 : X) (env : Env) (v : T) (st : Sto) : RS := R.toS (ev pg F o2 env st) env (Ktwo4 pg F i2 env v)
def Ktwo3 (pg : Pg) (F : Nat → List T → Sto → R T) (o2 i2 : X) (env : Env) (u v x y : T) (st : Sto) : RS := onO (putT st x y u) (Ktwo3b pg F o2 i2 env v) .bad
def Ktwo2 (pg : Pg) (F : Nat → List T → Sto → R T) (i o2 i2 : X) (env : Env) (u v x : T) (st : Sto) : RS := R.toS (ev pg F i env st) env (Ktwo3 pg F o2 i2 env u v x)
def Ktwo1 (pg : Pg) (F : Nat → List T → Sto → R T) (o i o2 i2 : X) (env : Env) (x : T) (st : Sto) : RS := match x with | .tup [u, v] => R.toS (ev pg F o env st) env (Ktwo2 pg F i o2 i2 env u v) | _ => .bad
def Ksub4 (j : Nat) (env : Env) (v : T) (st : Sto) : RS := setS j v env st
def Ksub3 (j : Nat) (env : Env) (u v x y : T) (st : Sto) : RS := onO (putT st x y u) (Ksub4 j env v) .bad
def Ksub2 (pg : Pg) (F : Nat → List T → Sto → R T) (i : X) (j : Nat) (env : Env) (u v x : T) (st : Sto) : RS := R.toS (ev pg F i env st) env (Ksub3 j env u v x)
def Ksub1 (pg : Pg) (F : Nat → List T → Sto → R T) (o i : X) (j : Nat) (env : Env) (x : T) (st : Sto) : RS := match x with | .tup [u, v] => R.toS (ev pg F o env st) env (Ksub2 pg F i j env u v) | _ => .bad
def Kfput2 (pg : Pg) (f : Nat) (env : Env) (v x : T) (st : Sto) : RS := onO (fputT pg st x f v) (Knx env) .bad
def Kfput1 (pg : Pg) (F : Nat → List T → Sto → R T) (o : X) (f : Nat) (env : Env) (v : T) (st : Sto) : RS := R.toS (ev pg F o env st) env (Kfput2 pg f env v)
def Kret (t : T) (st : Sto) : RS := .rt t st
def Kife (pg : Pg) (F : Nat → List T → Sto → R T) (a b : Ss) (env : Env) (q : Bool) (st : Sto) : RS := match q with | true => exs pg F a env st | false => exs pg F b env st
def Kfor (pg : Pg) (F : Nat → List T → Sto → R T) (g : G) (b : Ss) (env : Env) (ts : List T) (st : Sto) : RS := exFor g (exs pg F b) ts env st
theorem XK2 : (∀ (st : Sto) (t : T), Kok st t = .ok t st) ∧
    (∀ (st : Sto) (b : Bool), KokBl st b = .ok (.bl b) st) ∧
    (∀ (st : Sto) (b : Bool), KokB st b = .ok b st) ∧
    (∀ (st : Sto) (ts : List T), KokL st ts = .ok ts st) ∧
    (∀ (st : Sto) (ts : List T), KokE st ts = .ok (enumT 0 ts) st) ∧
    (∀ (op : Operator) (x y : T) (st : Sto), Kbin2 op x y st = onO (binV op x y) (Kok st) .bad) ∧
    (∀ (pg : Pg) (F : Nat → List T → Sto → R T) (op : Operator) (b : X) (env : Env) (x : T) (st : Sto), Kbin1 pg F op b env x st = R.bind (ev pg F b env st) (Kbin2 op x)) ∧
    (∀ (op : CmpOp) (x y : T) (st : Sto), Kcmp2 op x y st = onO (cmpT st op x y) (KokBl st) .bad) ∧
    (∀ (pg : Pg) (F : Nat → List T → Sto → R T) (op : CmpOp) (b : X) (env : Env) (x : T) (st : Sto), Kcmp1 pg F op b env x st = R.bind (ev pg F b env st) (Kcmp2 op x)) ∧
    (∀ (op : CmpOp) (x y : T) (st : Sto), Ktcmp2 op x y st = onO (cmpT st op x y) (KokB st) .bad) ∧
    (∀ (pg : Pg) (F : Nat → List T → Sto → R T) (op : CmpOp) (b : X) (env : Env) (x : T) (st : Sto), Ktcmp1 pg F op b env x st = R.bind (ev pg F b env st) (Ktcmp2 op x)) ∧
    (∀ (pg : Pg) (F : Nat → List T → Sto → R T) (p : CmpOp) (c : X) (env : Env) (y : T) (st : Sto), Kchn3 pg F p c env y st true = R.bind (ev pg F c env st) (Kcmp2 p y)) ∧
    (∀ (pg : Pg) (F : Nat → List T → Sto → R T) (p : CmpOp) (c : X) (env : Env) (y : T) (st : Sto), Kchn3 pg F p c env y st false = .ok (.bl false) st) ∧
    (∀ (pg : Pg) (F : Nat → List T → Sto → R T) (o p : CmpOp) (c : X) (env : Env) (x y : T) (st : Sto), Kchn2 pg F o p c env x y st = onO (cmpT st o x y) (Kchn3 pg F p c env y st) .bad) ∧
    (∀ (pg : Pg) (F : Nat → List T → Sto → R T) (o p : CmpOp) (b c : X) (env : Env) (x : T) (st : Sto), Kchn1 pg F o p b c env x st = R.bind (ev pg F b env st) (Kchn2 pg F o p c env x)) ∧
    (∀ (pg : Pg) (F : Nat → List T → Sto → R T) (p : CmpOp) (c : X) (env : Env) (y : T) (st : Sto), Ktchn3 pg F p c env y st true = R.bind (ev pg F c env st) (Ktcmp2 p y)) ∧
    (∀ (pg : Pg) (F : Nat → List T → Sto → R T) (p : CmpOp) (c : X) (env : Env) (y : T) (st : Sto), Ktchn3 pg F p c env y st false = .ok false st) ∧
    (∀ (pg : Pg) (F : Nat → List T → Sto → R T) (o p : CmpOp) (c : X) (env : Env) (x y : T) (st : Sto), Ktchn2 pg F o p c env x y st = onO (cmpT st o x y) (Ktchn3 pg F p c env y st) .bad) ∧
    (∀ (pg : Pg) (F : Nat → List T → Sto → R T) (o p : CmpOp) (b c : X) (env : Env) (x : T) (st : Sto), Ktchn1 pg F o p b c env x st = R.bind (ev pg F b env st) (Ktchn2 pg F o p c env x)) ∧
    (∀ (pg : Pg) (F : Nat → List T → Sto → R T) (b : X) (env : Env) (x : T) (st : Sto), Kand2 pg F b env x st true = ev pg F b env st) ∧
    (∀ (pg : Pg) (F : Nat → List T → Sto → R T) (b : X) (env : Env) (x : T) (st : Sto), Kand2 pg F b env x st false = .ok x st) ∧
    (∀ (pg : Pg) (F : Nat → List T → Sto → R T) (b : X) (env : Env) (x : T) (st : Sto), Kand1 pg F b env x st = onO (truV st x) (Kand2 pg F b env x st) .bad) := by
  refine ⟨?_, ?_, ?_, ?_, ?_, ?_, ?_, ?_, ?_, ?_, ?_, ?_, ?_, ?_, ?_, ?_, ?_, ?_, ?_, ?_, ?_, ?_⟩ <;> intros <;> rfl
theorem XK3 : (∀ (pg : Pg) (F : Nat → List T → Sto → R T) (b : X) (env : Env) (x : T) (st : Sto), Kor2 pg F b env x st true = .ok x st) ∧
    (∀ (pg : Pg) (F : Nat → List T → Sto → R T) (b : X) (env : Env) (x : T) (st : Sto), Kor2 pg F b env x st false = ev pg F b env st) ∧
    (∀ (pg : Pg) (F : Nat → List T → Sto → R T) (b : X) (env : Env) (x : T) (st : Sto), Kor1 pg F b env x st = onO (truV st x) (Kor2 pg F b env x st) .bad) ∧
    (∀ (st : Sto) (q : Bool), Knot2 st q = .ok (.bl (!q)) st) ∧
    (∀ (x : T) (st : Sto), Knot1 x st = onO (truV st x) (Knot2 st) .bad) ∧
    (∀ (i : Int) (st : Sto), Kneg (.int i) st = .ok (.int (-i)) st) ∧
    (∀ (pg : Pg) (F : Nat → List T → Sto → R T) (a b : X) (env : Env) (st : Sto), Kite pg F a b env true st = ev pg F a env st) ∧
    (∀ (pg : Pg) (F : Nat → List T → Sto → R T) (a b : X) (env : Env) (st : Sto), Kite pg F a b env false st = ev pg F b env st) ∧
    (∀ (ts : List T) (st : Sto), Ktup ts st = if ts.length ≤ big then .ok (.tup ts) st else .bad) ∧
    (∀ (k : Bool) (ts : List T) (st : Sto), Klst k ts st = if ts.length ≤ big then mkO k st (.lst ts) else .bad) ∧
    (∀ (F : Nat → List T → Sto → R T) (f : Nat) (ts : List T) (st : Sto), Kcl F f ts st = F f ts st) ∧
    (∀ (F : Nat → List T → Sto → R T) (f : Nat) (pm : List Nat) (n : Nat) (ts : List T) (st : Sto), Kclk F f pm n ts st = if (decide (ts.length = n) && pm.all (fun i => decide (i < ts.length))) = true then F f (pm.map fun i => ts.getD i .non) st else .bad) ∧
    (∀ (pg : Pg) (b : B) (ts : List T) (st : Sto), Kbl pg b ts st = onO (blT pg st b ts) (Kok st) .bad) ∧
    (∀ (pg : Pg) (F : Nat → List T → Sto → R T) (c : Nat) (ts : List T) (st : Sto), Kmk pg F c ts st = instNew pg F c ts st) ∧
    (∀ (x y : T) (st : Sto), Kix2 x y st = onO (ixT st x y) (Kok st) .bad) ∧
    (∀ (pg : Pg) (F : Nat → List T → Sto → R T) (b : X) (env : Env) (x : T) (st : Sto), Kix1 pg F b env x st = R.bind (ev pg F b env st) (Kix2 x)) ∧
    (∀ (x : T) (l h : Option Int) (st : Sto), Ksl3 x l h st = onO (slT st x l h) (Kok st) .bad) ∧
    (∀ (pg : Pg) (F : Nat → List T → Sto → R T) (hi : Xs) (env : Env) (x : T) (l : Option Int) (st : Sto), Ksl2 pg F hi env x l st = R.bind (evO pg F hi env st) (Ksl3 x l)) ∧
    (∀ (pg : Pg) (F : Nat → List T → Sto → R T) (lo hi : Xs) (env : Env) (x : T) (st : Sto), Ksl1 pg F lo hi env x st = R.bind (evO pg F lo env st) (Ksl2 pg F hi env x)) ∧
    (∀ (x : T) (xs : List T) (st : Sto), Kcons2 x xs st = .ok (x :: xs) st) ∧
    (∀ (pg : Pg) (F : Nat → List T → Sto → R T) (r : Xs) (env : Env) (x : T) (st : Sto), Kcons1 pg F r env x st = R.bind (evs pg F r env st) (Kcons2 x)) ∧
    (∀ (i : Int) (st : Sto), KevO (.int i) st = .ok (some i) st) := by
  refine ⟨?_, ?_, ?_, ?_, ?_, ?_, ?_, ?_, ?_, ?_, ?_, ?_, ?_, ?_, ?_, ?_, ?_, ?_, ?_, ?_, ?_, ?_⟩ <;> intros <;> rfl
theorem XK4 : (∀ (pg : Pg) (f : Nat) (x : T) (st : Sto), Kfld pg f x st = fldV pg st x f) ∧
    (∀ (F : Nat → List T → Sto → R T) (f : Nat) (x : T) (ts : List T) (st : Sto), Kom3 F f x ts st = F f (x :: ts) st) ∧
    (∀ (pg : Pg) (F : Nat → List T → Sto → R T) (es : Xs) (env : Env) (x : T) (st : Sto) (f : Nat), Kom2 pg F es env x st f = R.bind (evs pg F es env st) (Kom3 F f x)) ∧
    (∀ (pg : Pg) (F : Nat → List T → Sto → R T) (m : Nat) (es : Xs) (env : Env) (x : T) (st : Sto), Kom1 pg F m es env x st = onO (omV pg st x m) (Kom2 pg F es env x st) .bad) ∧
    (∀ (m : M) (x : T) (ts : List T) (st : Sto), Kmt2 m x ts st = mtT st m x ts) ∧
    (∀ (pg : Pg) (F : Nat → List T → Sto → R T) (m : M) (es : Xs) (env : Env) (x : T) (st : Sto), Kmt1 pg F m es env x st = if rcv st m x then R.bind (evs pg F es env st) (Kmt2 m x) else .bad) ∧
    (∀ (pg : Pg) (F : Nat → List T → Sto → R T) (k : Bool) (e : X) (g : G) (own : List Nat) (cs : Xs) (env : Env) (ts : List T) (st : Sto), Kcomp pg F k e g own cs env ts st = cmpK k ts.length (compGo g own env (evA pg F cs) (ev pg F e) ts st)) ∧
    (∀ (pg : Pg) (F : Nat → List T → Sto → R T) (e : X) (g1 g2 : G) (i2 : X) (own : List Nat) (cs : Xs) (env : Env) (ts : List T) (st : Sto), Kcomp2 pg F e g1 g2 i2 own cs env ts st = cmp2K ts.length (comp2Go g1 g2 own (gS g2) env (evI pg F i2) (evA pg F cs) (ev pg F e) ts st)) ∧
    (∀ (pg : Pg) (F : Nat → List T → Sto → R T) (b : X) (env : Env) (st : Sto), Ktand pg F b env true st = evT pg F b env st) ∧
    (∀ (pg : Pg) (F : Nat → List T → Sto → R T) (b : X) (env : Env) (st : Sto), Ktand pg F b env false st = .ok false st) ∧
    (∀ (pg : Pg) (F : Nat → List T → Sto → R T) (b : X) (env : Env) (st : Sto), Ktor pg F b env true st = .ok true st) ∧
    (∀ (pg : Pg) (F : Nat → List T → Sto → R T) (b : X) (env : Env) (st : Sto), Ktor pg F b env false st = evT pg F b env st) ∧
    (∀ (q : Bool) (st : Sto), Ktnot q st = .ok (!q) st) ∧
    (∀ (x : T) (st : Sto), Ktr x st = onO (truV st x) (KokB st) .bad) ∧
    (∀ (i : Int) (st : Sto), Krng1 (.int i) st = if -(2 ^ 62) ≤ i ∧ i < 2 ^ 62 then .ok (rangeT 0 i) st else .bad) ∧
    (∀ (i j : Int) (st : Sto), Krng2b (.int i) (.int j) st = if -(2 ^ 62) ≤ i ∧ i < 2 ^ 62 ∧ -(2 ^ 62) ≤ j ∧ j < 2 ^ 62 then .ok (rangeT i j) st else .bad) ∧
    (∀ (pg : Pg) (F : Nat → List T → Sto → R T) (b : X) (env : Env) (x : T) (st : Sto), Krng2a pg F b env x st = R.bind (ev pg F b env st) (Krng2b x)) ∧
    (∀ (x : T) (st : Sto), Kenum x st = onO (itemsOf st x) (KokE st) .bad) ∧
    (∀ (x y : T) (st : Sto), Kzip2 x y st = onO (zipOf st x y) (KokL st) .bad) ∧
    (∀ (pg : Pg) (F : Nat → List T → Sto → R T) (b : X) (env : Env) (x : T) (st : Sto), Kzip1 pg F b env x st = R.bind (ev pg F b env st) (Kzip2 x)) ∧
    (∀ (x : T) (st : Sto), Kit x st = onO (itemsOf st x) (KokL st) .bad) ∧
    (∀ (env : Env) (st : Sto), Knx env st = .nx env st) := by
  refine ⟨?_, ?_, ?_, ?_, ?_, ?_, ?_, ?_, ?_, ?_, ?_, ?_, ?_, ?_, ?_, ?_, ?_, ?_, ?_, ?_, ?_, ?_⟩ <;> intros <;> rfl
theorem XK5 : (∀ (st : Sto) (env : Env), Kenv st env = .nx env st) ∧
    (∀ (env : Env) (t : T) (st : Sto), Kex env t st = .nx env st) ∧
    (∀ (i : Nat) (env : Env) (t : T) (st : Sto), Kset i env t st = setS i t env st) ∧
    (∀ (g : G) (env : Env) (t : T) (st : Sto), Kasg g env t st = onO (bindG g t env) (Kenv st) .bad) ∧
    (∀ (i j : Nat) (env : Env) (u v : T) (st : Sto), Kpar2 i j env u v st = if i < env.length ∧ j < env.length then .nx ((env.set i (some u)).set j (some v)) st else .bad) ∧
    (∀ (pg : Pg) (F : Nat → List T → Sto → R T) (i j : Nat) (b : X) (env : Env) (u : T) (st : Sto), Kpar1 pg F i j b env u st = R.toS (ev pg F b env st) env (Kpar2 i j env u)) ∧
    (∀ (env : Env) (v x y : T) (st : Sto), Kput3 env v x y st = onO (putT st x y v) (Knx env) .bad) ∧
    (∀ (pg : Pg) (F : Nat → List T → Sto → R T) (i : X) (env : Env) (v x : T) (st : Sto), Kput2 pg F i env v x st = R.toS (ev pg F i env st) env (Kput3 env v x)) ∧
    (∀ (pg : Pg) (F : Nat → List T → Sto → R T) (o i : X) (env : Env) (v : T) (st : Sto), Kput1 pg F o i env v st = R.toS (ev pg F o env st) env (Kput2 pg F i env v)) ∧
    (∀ (j : Nat) (env : Env) (v : T) (st : Sto), Ksub4 j env v st = setS j v env st) ∧
    (∀ (j : Nat) (env : Env) (u v x y : T) (st : Sto), Ksub3 j env u v x y st = onO (putT st x y u) (Ksub4 j env v) .bad) ∧
    (∀ (pg : Pg) (F : Nat → List T → Sto → R T) (i : X) (j : Nat) (env : Env) (u v x : T) (st : Sto), Ksub2 pg F i j env u v x st = R.toS (ev pg F i env st) env (Ksub3 j env u v x)) ∧
    (∀ (pg : Pg) (F : Nat → List T → Sto → R T) (o i : X) (j : Nat) (env : Env) (u v : T) (st : Sto), Ksub1 pg F o i j env (.tup [u, v]) st = R.toS (ev pg F o env st) env (Ksub2 pg F i j env u v)) ∧
    (∀ (pg : Pg) (f : Nat) (env : Env) (v x : T) (st : Sto), Kfput2 pg f env v x st = onO (fputT pg st x f v) (Knx env) .bad) ∧
    (∀ (pg : Pg) (F : Nat → List T → Sto → R T) (o : X) (f : Nat) (env : Env) (v : T) (st : Sto), Kfput1 pg F o f env v st = R.toS (ev pg F o env st) env (Kfput2 pg f env v)) ∧
    (∀ (t : T) (st : Sto), Kret t st = .rt t st) ∧
    (∀ (pg : Pg) (F : Nat → List T → Sto → R T) (a b : Ss) (env : Env) (st : Sto), Kife pg F a b env true st = exs pg F a env st) ∧
    (∀ (pg : Pg) (F : Nat → List T → Sto → R T) (a b : Ss) (env : Env) (st : Sto), Kife pg F a b env false st = exs pg F b env st) ∧
    (∀ (pg : Pg) (F : Nat → List T → Sto → R T) (g : G) (b : Ss) (env : Env) (ts : List T) (st : Sto), Kfor pg F g b env ts st = exFor g (exs pg F b) ts env st) := by
  refine ⟨?_, ?_, ?_, ?_, ?_, ?_, ?_, ?_, ?_, ?_, ?_, ?_, ?_, ?_, ?_, ?_, ?_, ?_, ?_⟩ <;> intros <;> rfl
theorem XK6 : (∀ (pg : Pg) (F : Nat → List T → Sto → R T) (k : Bool) (a : X) (env : Env) (st : Sto), ev pg F (.dmk k a) env st = (ev pg F a env st).bind (Kdmk k)) ∧
    (∀ (pg : Pg) (F : Nat → List T → Sto → R T) (k : Bool) (ek e : X) (g : G) (it : X) (own : List Nat) (cs : Xs) (env : Env) (st : Sto), ev pg F (.dcomp k ek e g it own cs) env st = (evI pg F it env st).bind (Kdcomp pg F k ek e g own cs env)) ∧
    (∀ (k : Bool) (ts : List T) (st : Sto), Kdmk k (.lst ts) st = dmkK k (pairsT ts) st) ∧
    (∀ (pg : Pg) (F : Nat → List T → Sto → R T) (k : Bool) (ek e : X) (g : G) (own : List Nat) (cs : Xs) (env : Env) (ts : List T) (st : Sto), Kdcomp pg F k ek e g own cs env ts st = dcmK k ts.length (compGo g own env (evA pg F cs) (dcV pg F ek e) ts st)) ∧
    (∀ (pg : Pg) (F : Nat → List T → Sto → R T) (ek e : X) (env : Env) (st : Sto), dcV pg F ek e env st = R.bind (ev pg F ek env st) (Kdc1 pg F e env)) ∧
    (∀ (pg : Pg) (F : Nat → List T → Sto → R T) (e : X) (env : Env) (y : T) (st : Sto), Kdc1 pg F e env y st = R.bind (ev pg F e env st) (Kdc2 y)) ∧
    (∀ (x : List Nat) (z : T) (st : Sto), Kdc2 (.str x) z st = .ok (.tup [.str x, z]) st) ∧ (∀ (i : Int) (z : T) (st : Sto), Kdc2 (.int i) z st = .ok (.tup [.int i, z]) st) := by
  refine ⟨fun pg F k a env st => bindE fun x st => ?_, fun _ _ _ _ _ _ _ _ _ _ _ => rfl, ?_, ?_, ?_, ?_, ?_, ?_⟩
  · unfold Kdmk dmkK
    cases (lstOf st x).bind pairsT <;> rfl
  all_goals (intros; rfl)
/-! own special methods, keywords of classes and methods -/
def Ksp1 (pg : Pg) (F : Nat → List T → Sto → R T) (o : O1) (m : Nat) (x : T) (st : Sto) : R T := sp1OR pg F o m x st
def KeqO2 (pg : Pg) (F : Nat → List T → Sto → R T) (n : Bool) (m : Nat) (x y : T) (st : Sto) : R T := R.bind (eqOR pg F n m x y st) (fun c st => .ok (.bl c) st)
def KeqO1 (pg : Pg) (F : Nat → List T → Sto → R T) (n : Bool) (m : Nat) (b : X) (env : Env) (x : T) (st : Sto) : R T := R.bind (ev pg F b env st) (KeqO2 pg F n m x)
def KteqO2 (pg : Pg) (F : Nat → List T → Sto → R T) (n : Bool) (m : Nat) (x y : T) (st : Sto) : R Bool := eqOR pg F n m x y st
def KteqO1 (pg : Pg) (F : Nat → List T → Sto → R T) (n : Bool) (m : Nat) (b : X) (env : Env) (x : T) (st : Sto) : R Bool := R.bind (ev pg F b env st) (KteqO2 pg F n m x)
def KtrO (pg : Pg) (F : Nat → List T → Sto → R T) (m : Nat) (x : T) (st : Sto) : R Bool := R.bind (lenOR pg F m x st) (fun n st => .ok (decide (n ≠ 0)) st)
def Kmkk (pg : Pg) (F : Nat → List T → Sto → R T) (c n : Nat) (pm : List Nat) (ts : List T) (st : Sto) : R T := onO (byPm n pm ts) (fun us => instNew pg F c us st) .bad
def Komk2 (F : Nat → List T → Sto → R T) (f n : Nat) (pm : List Nat) (x : T) (ts : List T) (st : Sto) : R T := onO (byPm n pm ts) (fun us => F f (x :: us) st) .bad
def Komk1 (pg : Pg) (F : Nat → List T → Sto → R T) (m f : Nat) (pm : List Nat) (es : Xs) (env : Env) (x : T) (st : Sto) : R T := onO (omV pg st x m) (fun f' => if f' = f then R.bind (evs pg F es env st) (Komk2 F f es.len pm x) else .bad) .bad
def KevJ (pg : Pg) (F : Nat → List T → Sto → R T) (r : Xs) (acc : List Nat) (env : Env) (x : T) (st : Sto) : R T := match x with
  | .str y => if acc.length + y.length ≤ big then evJ pg F r (acc ++ y) env st else .bad
  | _ => .bad
def Kfm (x : T) (st : Sto) : R T := onO (fmT x) (Kok st) .bad
theorem XK10 : (∀ (pg : Pg) (F : Nat → List T → Sto → R T) (es : Xs) (env : Env) (st : Sto), ev pg F (.fs es) env st = evJ pg F es [] env st) ∧
    (∀ (pg : Pg) (F : Nat → List T → Sto → R T) (a : X) (env : Env) (st : Sto), ev pg F (.fm a) env st = (ev pg F a env st).bind Kfm) ∧
    (∀ (pg : Pg) (F : Nat → List T → Sto → R T) (acc : List Nat) (env : Env) (st : Sto), evJ pg F .nil acc env st = .ok (.str acc) st) ∧
    (∀ (pg : Pg) (F : Nat → List T → Sto → R T) (a : X) (r : Xs) (acc : List Nat) (env : Env) (st : Sto), evJ pg F (.cons a r) acc env st = (ev pg F a env st).bind (KevJ pg F r acc env)) := by
  refine ⟨fun _ _ _ _ _ => rfl, fun pg F a env st => bindE fun x st => ?_, fun _ _ _ _ _ => rfl, fun pg F a r acc env st => bindE fun x st => ?_⟩
  · unfold Kfm; rw [ofO_on]; rfl
  · cases x <;> rfl
theorem evJ_str {pg : Pg} {F : Nat → List T → Sto → R T} {r : Xs} {acc y : List Nat} {env : Env} {st : Sto} (h : acc.length + y.length ≤ big) : KevJ pg F r acc env (.str y) st = evJ pg F r (acc ++ y) env st := if_pos h
theorem fm_str {y : List Nat} {st : Sto} (h : y.length ≤ big) : Kfm (.str y) st = .ok (.str y) st := by
  unfold Kfm
  rw [show fmT (.str y) = some (.str y) from if_pos h]
  rfl
theorem fm_int {i : Int} {st : Sto} (h : i.natAbs < 10 ^ 60) : Kfm (.int i) st = .ok (.str (itoa i)) st := by
  unfold Kfm
  rw [show fmT (.int i) = some (.str (itoa i)) from if_pos h]
  rfl
theorem itoa_len {i : Int} {k : Nat} (hk : 0 < k) (h : i.natAbs < 10 ^ k) : (itoa i).length ≤ k + 1 := by
  unfold itoa
  rw [Array.length_toList]
  show (PySem.Str.ofString (toString i)).length ≤ k + 1
  rw [PySem.ofString_length]
  exact int_text_length_le10 (k := k) hk h
def KeqL2 (pg : Pg) (F : Nat → List T → Sto → R T) (n : Bool) (m : Nat) (x y : T) (st : Sto) : R T := R.bind (eqLR pg F n m x y st) (fun c st => .ok (.bl c) st)
def KeqL1 (pg : Pg) (F : Nat → List T → Sto → R T) (n : Bool) (m : Nat) (b : X) (env : Env) (x : T) (st : Sto) : R T := R.bind (ev pg F b env st) (KeqL2 pg F n m x)
def KteqL2 (pg : Pg) (F : Nat → List T → Sto → R T) (n : Bool) (m : Nat) (x y : T) (st : Sto) : R Bool := eqLR pg F n m x y st
def KteqL1 (pg : Pg) (F : Nat → List T → Sto → R T) (n : Bool) (m : Nat) (b : X) (env : Env) (x : T) (st : Sto) : R Bool := R.bind (ev pg F b env st) (KteqL2 pg F n m x)
theorem XK11 : (∀ (pg : Pg) (F : Nat → List T → Sto → R T) (n : Bool) (m : Nat) (a b : X) (env : Env) (st : Sto), ev pg F (.eqL n m a b) env st = (ev pg F a env st).bind (KeqL1 pg F n m b env)) ∧
    (∀ (pg : Pg) (F : Nat → List T → Sto → R T) (n : Bool) (m : Nat) (b : X) (env : Env) (x : T) (st : Sto), KeqL1 pg F n m b env x st = (ev pg F b env st).bind (KeqL2 pg F n m x)) ∧
    (∀ (pg : Pg) (F : Nat → List T → Sto → R T) (n : Bool) (m : Nat) (a b : X) (env : Env) (st : Sto), evT pg F (.eqL n m a b) env st = (ev pg F a env st).bind (KteqL1 pg F n m b env)) ∧
    (∀ (pg : Pg) (F : Nat → List T → Sto → R T) (n : Bool) (m : Nat) (b : X) (env : Env) (x : T) (st : Sto), KteqL1 pg F n m b env x st = (ev pg F b env st).bind (KteqL2 pg F n m x)) :=
  ⟨fun _ _ _ _ _ _ _ _ => rfl, fun _ _ _ _ _ _ _ _ => rfl, fun _ _ _ _ _ _ _ _ => rfl, fun _ _ _ _ _ _ _ _ => rfl⟩
theorem eqL_cons {pg : Pg} {F : Nat → List T → Sto → R T} {m c f : Nat} {x y : T} {xs ys : List T} {st : Sto} (h : ownF pg st m x = some (c, f)) (ho : otherOk pg st c y = true) (hy : (ownF pg st m y).isSome = true) (hr : F f [x, y] st = .ok (.bl true) st) (ih : eqLs pg F m xs ys st = true) : eqLs pg F m (x :: xs) (y :: ys) st = true := by
  unfold eqLs
  rw [h]
  simp only [ho, hy, hr, Sto.beq_refl, ih, Bool.and_self]
theorem eqL_at {pg : Pg} {F : Nat → List T → Sto → R T} {n : Bool} {m : Nat} {xs ys : List T} {st : Sto} (h : eqLs pg F m xs ys st = true) : eqLR pg F n m (.lst xs) (.lst ys) st = .ok (!n) st := if_pos h
theorem XK9 : (∀ (pg : Pg) (F : Nat → List T → Sto → R T) (o : O1) (m : Nat) (a : X) (env : Env) (st : Sto), ev pg F (.sp1 o m a) env st = (ev pg F a env st).bind (Ksp1 pg F o m)) ∧
    (∀ (pg : Pg) (F : Nat → List T → Sto → R T) (n : Bool) (m : Nat) (a b : X) (env : Env) (st : Sto), ev pg F (.eqO n m a b) env st = (ev pg F a env st).bind (KeqO1 pg F n m b env)) ∧
    (∀ (pg : Pg) (F : Nat → List T → Sto → R T) (n : Bool) (m : Nat) (b : X) (env : Env) (x : T) (st : Sto), KeqO1 pg F n m b env x st = (ev pg F b env st).bind (KeqO2 pg F n m x)) ∧
    (∀ (pg : Pg) (F : Nat → List T → Sto → R T) (n : Bool) (m : Nat) (a b : X) (env : Env) (st : Sto), evT pg F (.eqO n m a b) env st = (ev pg F a env st).bind (KteqO1 pg F n m b env)) ∧
    (∀ (pg : Pg) (F : Nat → List T → Sto → R T) (n : Bool) (m : Nat) (b : X) (env : Env) (x : T) (st : Sto), KteqO1 pg F n m b env x st = (ev pg F b env st).bind (KteqO2 pg F n m x)) ∧
    (∀ (pg : Pg) (F : Nat → List T → Sto → R T) (m : Nat) (a : X) (env : Env) (st : Sto), evT pg F (.trO m a) env st = (ev pg F a env st).bind (KtrO pg F m)) ∧
    (∀ (pg : Pg) (F : Nat → List T → Sto → R T) (c : Nat) (pm : List Nat) (es : Xs) (env : Env) (st : Sto), ev pg F (.mkk c pm es) env st = (evs pg F es env st).bind (Kmkk pg F c es.len pm)) ∧
    (∀ (pg : Pg) (F : Nat → List T → Sto → R T) (m f : Nat) (pm : List Nat) (o : X) (es : Xs) (env : Env) (st : Sto), ev pg F (.omk m f pm o es) env st = (ev pg F o env st).bind (Komk1 pg F m f pm es env)) := by
  refine ⟨fun _ _ _ _ _ _ _ => rfl, fun _ _ _ _ _ _ _ _ => rfl, fun _ _ _ _ _ _ _ _ => rfl, fun _ _ _ _ _ _ _ _ => rfl, fun _ _ _ _ _ _ _ _ => rfl, fun _ _ _ _ _ _ => rfl, fun pg F c pm es env st => ?_, fun pg F m f pm o es env st => ?_⟩
  · refine bindE fun ts st => ?_
    unfold Kmkk mkkR onO
    cases byPm es.len pm ts <;> rfl
  · refine bindE fun x st => ?_
    unfold Komk1 omkR omV onO
    cases insOf st x with
    | none => rfl
    | some q =>
      obtain ⟨c, fs, us⟩ := q
      cases h : pg.cls c with
      | none => simp only [h]
      | some cl =>
        cases h2 : lookM m cl.ms with
        | none => simp only [h, h2]
        | some f' =>
          simp only [h, h2]
          by_cases hc : m ∉ cl.fs ∧ (∀ g ∈ fs, g ∈ cl.fs)
          · by_cases hf : f' = f
            · rw [if_pos ⟨hf, hc⟩, if_pos hc]
              simp only [if_pos hf]
              refine bindE fun ts st => ?_
              unfold Komk2 onO
              cases byPm es.len pm ts <;> rfl
            · rw [if_neg (fun q => hf q.1), if_pos hc]
              simp only [if_neg hf]
          · rw [if_neg (fun q => hc q.2), if_neg hc]
section
variable {pg : Pg} {F : Nat → List T → Sto → R T} {m c f : Nat} {x y : T} {st st' : Sto} {n : Int} {b k : Bool} {cs : List Nat}
theorem sp1_len (h : ownF pg st m x = some (c, f)) (hr : F f [x] st = .ok (.int n) st') (hn : 0 ≤ n ∧ n < 2 ^ 63) : Ksp1 pg F .len m x st = .ok (.int n) st' := by
  unfold Ksp1 sp1OR
  rw [h]
  show sp1R .len (F f [x] st) = _
  rw [hr]
  show R.bind (if 0 ≤ n ∧ n < 2 ^ 63 then R.ok n st' else .bad) _ = _
  rw [if_pos hn]
  rfl
theorem sp1_str (h : ownF pg st m x = some (c, f)) (hr : F f [x] st = .ok (.str cs) st') : Ksp1 pg F .str m x st = .ok (.str cs) st' := by
  unfold Ksp1 sp1OR
  rw [h]
  show sp1R .str (F f [x] st) = _
  rw [hr]
  rfl
theorem eqO_at (h : ownF pg st m x = some (c, f)) (ho : otherOk pg st c y = true) (hr : F f [x, y] st = .ok (.bl b) st') : eqOR pg F k m x y st = .ok (b != k) st' := by
  unfold eqOR
  rw [h]
  show (if otherOk pg st c y = true then eqR k (F f [x, y] st) else .bad) = _
  rw [if_pos ho, hr]
  rfl
theorem trO_at (h : ownF pg st m x = some (c, f)) (hr : F f [x] st = .ok (.int n) st') (hn : 0 ≤ n ∧ n < 2 ^ 63) : KtrO pg F m x st = .ok (decide (n ≠ 0)) st' := by
  unfold KtrO lenOR
  rw [h]
  show R.bind (lenR (F f [x] st)) _ = _
  rw [hr]
  show R.bind (if 0 ≤ n ∧ n < 2 ^ 63 then R.ok n st' else .bad) _ = _
  rw [if_pos hn]
  rfl
end
def KminK (q : Nat) (i : Int) (t : T) (st : Sto) : R T := if hasTab q st = true then onO (minKT st t i) (fun t => .ok t st) .bad else .bad
theorem XK8 : (∀ (pg : Pg) (F : Nat → List T → Sto → R T) (q : Nat) (a : X) (i : Int) (env : Env) (st : Sto), ev pg F (.minK q a i) env st = (ev pg F a env st).bind (KminK q i)) := fun pg F q a i env st => bindE fun x st => by
  unfold KminK
  rw [ofO_on]
section
variable (pg : Pg) (F : Nat → List T → Sto → R T)
theorem exs_cons (a : S) (r : Ss) (env : Env) (st : Sto) : exs pg F (.cons a r) env st = RS.seq (ex pg F a env st) (exs pg F r) := by
  cases h : ex pg F a env st <;> simp [exs, h, RS.seq]
theorem ev_v (i : Nat) (env : Env) (st : Sto) : ev pg F (.v i) env st = onO (getS i env) (Kok st) .bad := by
  unfold getS onO
  show (match env[i]? with | some (some t) => R.ok t st | _ => R.bad) = _
  cases h : env[i]? with
  | none => rfl
  | some o => cases o <;> rfl
theorem ev_om (m : Nat) (o : X) (es : Xs) (env : Env) (st : Sto) : ev pg F (.om m o es) env st = (ev pg F o env st).bind (Kom1 pg F m es env) := by
  refine bindE fun x st => ?_
  unfold Kom1 omV onO
  cases insOf st x with
  | none => rfl
  | some q =>
    obtain ⟨c, fs, us⟩ := q
    cases h : pg.cls c with
    | none => simp only [h]
    | some cl =>
      cases h2 : lookM m cl.ms with
      | none => simp only [h, h2]
      | some f =>
        simp only [h, h2]
        by_cases hc : m ∉ cl.fs ∧ (∀ g ∈ fs, g ∈ cl.fs)
        · rw [if_pos hc, if_pos hc]; rfl
        · rw [if_neg hc, if_neg hc]
/-- expressions -/
theorem XE : (∀ i env st, ev pg F (.v i) env st = onO (getS i env) (Kok st) .bad) ∧ (∀ t env st, ev pg F (.c t) env st = .ok t st) ∧ (∀ x env st, ev pg F (.gl x) env st = .ok (.gl x) st) ∧ (∀ x t env st, ev pg F (.gc x t) env st = .ok t st) ∧ (∀ x n env st, ev pg F (.bty x n) env st = .ok (.ty n) st) ∧
    (∀ op a b env st, ev pg F (.bin op a b) env st = (ev pg F a env st).bind (Kbin1 pg F op b env)) ∧ (∀ op a b env st, ev pg F (.cmp op a b) env st = (ev pg F a env st).bind (Kcmp1 pg F op b env)) ∧ (∀ o p a b c env st, ev pg F (.chn o p a b c) env st = (ev pg F a env st).bind (Kchn1 pg F o p b c env)) ∧
    (∀ a b env st, ev pg F (.and2 a b) env st = (ev pg F a env st).bind (Kand1 pg F b env)) ∧ (∀ a b env st, ev pg F (.or2 a b) env st = (ev pg F a env st).bind (Kor1 pg F b env)) ∧ (∀ a env st, ev pg F (.not1 a) env st = (ev pg F a env st).bind Knot1) ∧ (∀ a env st, ev pg F (.neg a) env st = (ev pg F a env st).bind Kneg) ∧
    (∀ a env st, ev pg F (.one a) env st = ev pg F a env st) ∧ (∀ c a b env st, ev pg F (.ite c a b) env st = (evT pg F c env st).bind (Kite pg F a b env)) ∧
    (∀ es env st, ev pg F (.tup es) env st = (evs pg F es env st).bind Ktup) ∧ (∀ k es env st, ev pg F (.lst k es) env st = (evs pg F es env st).bind (Klst k)) ∧
    (∀ k env st, ev pg F (.dnew k) env st = mkO k st (.dic [] [])) ∧ (∀ f es env st, ev pg F (.cl f es) env st = (evs pg F es env st).bind (Kcl F f)) ∧ (∀ f pm es env st, ev pg F (.clk f pm es) env st = (evs pg F es env st).bind (Kclk F f pm es.len)) ∧
    (∀ b es env st, ev pg F (.bl b es) env st = (evs pg F es env st).bind (Kbl pg b)) ∧ (∀ c es env st, ev pg F (.mk c es) env st = (evs pg F es env st).bind (Kmk pg F c)) ∧
    (∀ a b env st, ev pg F (.ix a b) env st = (ev pg F a env st).bind (Kix1 pg F b env)) ∧ (∀ a lo hi env st, ev pg F (.sl a lo hi) env st = (ev pg F a env st).bind (Ksl1 pg F lo hi env)) ∧ (∀ a f env st, ev pg F (.fld a f) env st = (ev pg F a env st).bind (Kfld pg f)) ∧
    (∀ m o es env st, ev pg F (.om m o es) env st = (ev pg F o env st).bind (Kom1 pg F m es env)) ∧ (∀ m o es env st, ev pg F (.mt m o es) env st = (ev pg F o env st).bind (Kmt1 pg F m es env)) ∧
    (∀ k e g it own cs env st, ev pg F (.comp k e g it own cs) env st = (evI pg F it env st).bind (Kcomp pg F k e g own cs env)) ∧ (∀ e g1 i1 g2 i2 own cs env st, ev pg F (.comp2 e g1 i1 g2 i2 own cs) env st = (evI pg F i1 env st).bind (Kcomp2 pg F e g1 g2 i2 own cs env)) ∧
    (∀ env st, evs pg F .nil env st = .ok [] st) ∧ (∀ a r env st, evs pg F (.cons a r) env st = (ev pg F a env st).bind (Kcons1 pg F r env)) ∧
    (∀ env st, evO pg F .nil env st = .ok none st) ∧ (∀ a env st, evO pg F (.cons a .nil) env st = (ev pg F a env st).bind KevO) ∧ (∀ env st, evA pg F .nil env st = .ok true st) ∧ (∀ a env st, evA pg F (.cons a .nil) env st = evT pg F a env st) := by
  refine ⟨ev_v pg F, fun _ _ _ => rfl, fun _ _ _ => rfl, fun _ _ _ _ => rfl, fun _ _ _ _ => rfl, fun op a b env st => ?_, fun op a b env st => ?_, fun o p a b c env st => ?_, fun a b env st => ?_, fun a b env st => ?_, fun a env st => ?_, fun a env st => rfl, fun _ _ _ => rfl, fun c a b env st => ?_, fun _ _ _ => rfl, fun _ _ _ _ => rfl, fun _ _ _ => rfl, fun _ _ _ _ => rfl, fun _ _ _ _ _ => rfl, fun b es env st => ?_, fun _ _ _ _ => rfl, fun a b env st => ?_, fun a lo hi env st => ?_, fun _ _ _ _ => rfl, ev_om pg F, fun _ _ _ _ _ => rfl, fun _ _ _ _ _ _ _ _ => rfl, fun _ _ _ _ _ _ _ _ _ => rfl, fun _ _ => rfl, fun _ _ _ _ => rfl, fun _ _ => rfl, fun _ _ _ => rfl, fun _ _ => rfl, fun _ _ _ => rfl⟩
  · exact bindE fun x st => bindE fun y st => by unfold Kbin2; cases binV op x y <;> rfl
  · exact bindE fun x st => bindE fun y st => by unfold Kcmp2; cases cmpT st op x y <;> rfl
  · refine bindE fun x st => bindE fun y st => ?_
    unfold Kchn2
    cases h : cmpT st o x y with
    | none => rfl
    | some q =>
      cases q
      · rfl
      · exact bindE fun z st => by unfold Kcmp2; cases cmpT st p y z <;> rfl
  · refine bindE fun x st => ?_
    unfold Kand1
    cases h : truV st x with
    | none => rfl
    | some q => cases q <;> rfl
  · refine bindE fun x st => ?_
    unfold Kor1
    cases h : truV st x with
    | none => rfl
    | some q => cases q <;> rfl
  · exact bindE fun x st => by unfold Knot1; cases truV st x <;> rfl
  · exact bindE fun q st => by cases q <;> rfl
  · exact bindE fun x st => by unfold Kbl; cases blT pg st b x <;> rfl
  · exact bindE fun x st => bindE fun y st => by unfold Kix2; cases ixT st x y <;> rfl
  · exact bindE fun x st => bindE fun y st => bindE fun z st => by unfold Ksl3; cases slT st x y z <;> rfl
/-- tests -/
theorem XT : (∀ a b env st, evT pg F (.and2 a b) env st = (evT pg F a env st).bind (Ktand pg F b env)) ∧ (∀ a b env st, evT pg F (.or2 a b) env st = (evT pg F a env st).bind (Ktor pg F b env)) ∧ (∀ a env st, evT pg F (.one a) env st = evT pg F a env st) ∧ (∀ a env st, evT pg F (.not1 a) env st = (evT pg F a env st).bind Ktnot) ∧
    (∀ op a b env st, evT pg F (.cmp op a b) env st = (ev pg F a env st).bind (Ktcmp1 pg F op b env)) ∧ (∀ o p a b c env st, evT pg F (.chn o p a b c) env st = (ev pg F a env st).bind (Ktchn1 pg F o p b c env)) ∧ (∀ a env st, evT pg F (.tr a) env st = (ev pg F a env st).bind Ktr) := by
  refine ⟨fun a b env st => ?_, fun a b env st => ?_, fun _ _ _ => rfl, fun _ _ _ => rfl, fun op a b env st => ?_, fun o p a b c env st => ?_, fun a env st => ?_⟩
  · exact bindE fun q st => by cases q <;> rfl
  · exact bindE fun q st => by cases q <;> rfl
  · exact bindE fun x st => bindE fun y st => by unfold Ktcmp2; cases cmpT st op x y <;> rfl
  · refine bindE fun x st => bindE fun y st => ?_
    unfold Ktchn2
    cases h : cmpT st o x y with
    | none => rfl
    | some q =>
      cases q
      · rfl
      · exact bindE fun z st => by unfold Ktcmp2; cases cmpT st p y z <;> rfl
  · exact bindE fun x st => by unfold Ktr; cases truV st x <;> rfl
/-- what is walked -/
theorem XI : (∀ a env st, evI pg F (.rng1 a) env st = (ev pg F a env st).bind Krng1) ∧ (∀ a b env st, evI pg F (.rng2 a b) env st = (ev pg F a env st).bind (Krng2a pg F b env)) ∧ (∀ a env st, evI pg F (.enum a) env st = (ev pg F a env st).bind Kenum) ∧
    (∀ a b env st, evI pg F (.zip a b) env st = (ev pg F a env st).bind (Kzip1 pg F b env)) ∧ (∀ a env st, evI pg F (.it a) env st = (ev pg F a env st).bind Kit) := by
  refine ⟨fun _ _ _ => rfl, fun _ _ _ _ => rfl, fun a env st => ?_, fun a b env st => ?_, fun a env st => ?_⟩
  · exact bindE fun x st => by unfold Kenum; cases itemsOf st x <;> rfl
  · exact bindE fun x st => bindE fun y st => by unfold Kzip2; cases zipOf st x y <;> rfl
  · exact bindE fun x st => by unfold Kit; cases itemsOf st x <;> rfl
/-- statements -/
theorem XS : (∀ env st, exs pg F .nil env st = .nx env st) ∧ (∀ a r env st, exs pg F (.cons a r) env st = RS.seq (ex pg F a env st) (exs pg F r)) ∧ (∀ e env st, ex pg F (.ex e) env st = (ev pg F e env st).toS env (Kex env)) ∧
    (∀ i e env st, ex pg F (.set i e) env st = (ev pg F e env st).toS env (Kset i env)) ∧ (∀ i e env st, ex pg F (.setC i e) env st = (ev pg F e env st).toS env (Kset i env)) ∧ (∀ g e env st, ex pg F (.asg g e) env st = (ev pg F e env st).toS env (Kasg g env)) ∧
    (∀ i j a b env st, ex pg F (.par i j a b) env st = (ev pg F a env st).toS env (Kpar1 pg F i j b env)) ∧ (∀ o i e env st, ex pg F (.put o i e) env st = (ev pg F e env st).toS env (Kput1 pg F o i env)) ∧ (∀ o i j e env st, ex pg F (.sub o i j e) env st = (ev pg F e env st).toS env (Ksub1 pg F o i j env)) ∧
    (∀ o f e env st, ex pg F (.fput o f e) env st = (ev pg F e env st).toS env (Kfput1 pg F o f env)) ∧
    (∀ e env st, ex pg F (.ret e) env st = (ev pg F e env st).toS env Kret) ∧ (∀ env st, ex pg F .retN env st = .rt .non st) ∧ (∀ env st, ex pg F .pass env st = .nx env st) ∧ (∀ env st, ex pg F .brk env st = .bk env st) ∧ (∀ env st, ex pg F .cnt env st = .ct env st) ∧
    (∀ c a b env st, ex pg F (.ife c a b) env st = (evT pg F c env st).toS env (Kife pg F a b env)) ∧ (∀ g it b env st, ex pg F (.forr g it b) env st = (evI pg F it env st).toS env (Kfor pg F g b env)) ∧
    (∀ n c b env st, ex pg F (.whl n c b) env st = exWhl (evT pg F c) (exs pg F b) n env st) := by
  refine ⟨fun _ _ => rfl, exs_cons pg F, fun _ _ _ => rfl, fun _ _ _ _ => rfl, fun _ _ _ _ => rfl, fun g e env st => ?_, fun _ _ _ _ _ _ => rfl, fun o i e env st => ?_, fun o i j e env st => ?_, fun o f e env st => ?_, fun _ _ _ => rfl, fun _ _ => rfl, fun _ _ => rfl, fun _ _ => rfl, fun _ _ => rfl, fun c a b env st => ?_, fun _ _ _ _ _ => rfl, fun _ _ _ _ _ => rfl⟩
  · exact toSE fun t st => by unfold Kasg; cases bindG g t env <;> rfl
  · exact toSE fun v st => toSE fun x st => toSE fun y st => by unfold Kput3; cases putT st x y v <;> rfl
  · refine toSE fun t st => ?_
    unfold Ksub1
    cases t with
    | tup ts =>
      match ts with
      | [] => rfl
      | [_] => rfl
      | [u, v] => exact toSE fun x st => toSE fun y st => by unfold Ksub3; cases putT st x y u <;> rfl
      | _ :: _ :: _ :: _ => rfl
    | _ => rfl
  · exact toSE fun v st => toSE fun x st => by unfold Kfput2; cases fputT pg st x f v <;> rfl
  · exact toSE fun q st => by cases q <;> rfl
end
theorem XK7 : (∀ (pg : Pg) (F : Nat → List T → Sto → R T) (o i o2 i2 e : X) (env : Env) (st : Sto), ex pg F (.sub2 o i o2 i2 e) env st = (ev pg F e env st).toS env (Ktwo1 pg F o i o2 i2 env)) ∧
    (∀ (pg : Pg) (F : Nat → List T → Sto → R T) (o i o2 i2 : X) (env : Env) (u v : T) (st : Sto), Ktwo1 pg F o i o2 i2 env (.tup [u, v]) st = R.toS (ev pg F o env st) env (Ktwo2 pg F i o2 i2 env u v)) ∧
    (∀ (pg : Pg) (F : Nat → List T → Sto → R T) (i o2 i2 : X) (env : Env) (u v x : T) (st : Sto), Ktwo2 pg F i o2 i2 env u v x st = R.toS (ev pg F i env st) env (Ktwo3 pg F o2 i2 env u v x)) ∧
    (∀ (pg : Pg) (F : Nat → List T → Sto → R T) (o2 i2 : X) (env : Env) (u v x y : T) (st : Sto), Ktwo3 pg F o2 i2 env u v x y st = onO (putT st x y u) (Ktwo3b pg F o2 i2 env v) .bad) ∧
    (∀ (pg : Pg) (F : Nat → List T → Sto → R T) (o2 i2 : X) (env : Env) (v : T) (st : Sto), Ktwo3b pg F o2 i2 env v st = R.toS (ev pg F o2 env st) env (Ktwo4 pg F i2 env v)) ∧
    (∀ (pg : Pg) (F : Nat → List T → Sto → R T) (i2 : X) (env : Env) (v x : T) (st : Sto), Ktwo4 pg F i2 env v x st = R.toS (ev pg F i2 env st) env (Ktwo5 env v x)) ∧
    (∀ (env : Env) (v x y : T) (st : Sto), Ktwo5 env v x y st = onO (putT st x y v) (Knx env) .bad) := by
  refine ⟨fun pg F o i o2 i2 e env st => ?_, ?_, ?_, ?_, ?_, ?_, ?_⟩
  · refine toSE fun t st => ?_
    unfold Ktwo1
    cases t with
    | tup ts =>
      match ts with
      | [] => rfl
      | [_] => rfl
      | [u, v] =>
        refine toSE fun x st => toSE fun y st => ?_
        unfold Ktwo3
        cases putT st x y u with
        | none => rfl
        | some st' => exact toSE fun x st => toSE fun y st => by unfold Ktwo5; cases putT st x y v <;> rfl
      | _ :: _ :: _ :: _ => rfl
    | _ => rfl
  all_goals (intros; rfl)
/-! ### a def's run -/
theorem run_at {pg : Pg} {D : Nat → Option Df} {d f : Nat} {df : Df} {ts : List T} {st : Sto} (h : D f = some df) (hl : ts.length = df.np) :
    run pg D (d + 1) f ts st = fnEnd df.keep st (exs pg (run pg D d) df.body (ts.map some ++ List.replicate (df.nl - ts.length) none) st) := by
  show (match D f with
    | some df => if ts.length = df.np then fnEnd df.keep st (exs pg (run pg D d) df.body (ts.map some ++ List.replicate (df.nl - ts.length) none) st) else .bad
    | none => .bad) = _
  rw [h]
  exact if_pos hl
/-! ### stores -/
theorem okDrop_refl (n : Nat) : ∀ st : Sto, okDrop n st st = true
  | [] => rfl
  | none :: st => okDrop_refl n st
  | some a :: st => by simp [okDrop, O.beq_refl, okDrop_refl n st]
theorem okDrop_app (n : Nat) (l : Sto) : ∀ st : Sto, okDrop n st (st ++ l) = true
  | [] => rfl
  | none :: st => okDrop_app n l st
  | some a :: st => by simp [okDrop, O.beq_refl, okDrop_app n l st]
theorem okDrop_put (n : Nat) (o : O) (l : Sto) (h : o.lt n = true) : ∀ (st : Sto) (k : Nat), (∃ o', st[k]? = some (some o')) → okDrop n st (putO st k o ++ l) = true
  | [], k, ⟨o', e⟩ => by simp at e
  | none :: st, 0, ⟨o', e⟩ => by simp at e
  | some a :: st, 0, ⟨o', e⟩ => by
    show okDrop n (some a :: st) (some o :: (st ++ l)) = true
    simp [okDrop, h, okDrop_app]
  | none :: st, k + 1, ⟨o', e⟩ => by
    have := okDrop_put n o l h st k ⟨o', by simpa using e⟩
    simpa [putO, okDrop] using this
  | some a :: st, k + 1, ⟨o', e⟩ => by
    have := okDrop_put n o l h st k ⟨o', by simpa using e⟩
    simpa [putO, okDrop, O.beq_refl] using this
theorem put_len {st : Sto} {n : Nat} {o : O} : (putO st n o).length = st.length := by simp [putO]
theorem put_put {st : Sto} {n : Nat} {o o' : O} : putO (putO st n o) n o' = putO st n o' := by simp [putO]
theorem get_put {st : Sto} {n : Nat} {o o' : O} (h : st[n]? = some (some o)) : (putO st n o')[n]? = some (some o') := by
  unfold putO
  obtain ⟨hl, _⟩ := List.getElem?_eq_some_iff.mp h
  simp [hl]
theorem cell_at {st : Sto} {n : Nat} {o : O} (h : st[n]? = some (some o)) : cellO st n = some o := by simp [cellO, h]
theorem cell_old {st l : Sto} {n : Nat} (h : n < st.length) : cellO (st ++ l) n = cellO st n := by simp [cellO, List.getElem?_append_left h]
/-- the new cells' places -/
theorem XC (st : Sto) (a b c : Option O) (l : Sto) (o : O) : cellO (st ++ a :: l) st.length = a ∧ cellO (st ++ a :: b :: l) (st.length + 1) = b ∧ cellO (st ++ a :: b :: c :: l) (st.length + 2) = c ∧
    putO (st ++ a :: l) st.length o = st ++ some o :: l ∧ putO (st ++ a :: b :: l) (st.length + 1) o = st ++ a :: some o :: l ∧ putO (st ++ a :: b :: c :: l) (st.length + 2) o = st ++ a :: b :: some o :: l := by
  refine ⟨?_, ?_, ?_, ?_, ?_, ?_⟩ <;> simp [cellO, putO, List.getElem?_append_right, List.set_append_right]
mutual
theorem T.lt_mono {m n : Nat} (h : m ≤ n) : ∀ t : T, t.lt m = true → t.lt n = true
  | .tup ts, q => by simpa [T.lt] using T.lts_mono h ts (by simpa [T.lt] using q)
  | .lst ts, q => by simpa [T.lt] using T.lts_mono h ts (by simpa [T.lt] using q)
  | .dic _ ts, q => by simpa [T.lt] using T.lts_mono h ts (by simpa [T.lt] using q)
  | .ins _ _ ts, q => by simpa [T.lt] using T.lts_mono h ts (by simpa [T.lt] using q)
  | .err _ _ ts, q => by simpa [T.lt] using T.lts_mono h ts (by simpa [T.lt] using q)
  | .cell k, q => by
    simp only [T.lt, decide_eq_true_eq] at q ⊢
    omega
  | .non, _ => rfl
  | .bl _, _ => rfl
  | .int _, _ => rfl
  | .str _, _ => rfl
  | .ty _, _ => rfl
  | .gl _, _ => rfl
  | .scr _, _ => rfl
theorem T.lts_mono {m n : Nat} (h : m ≤ n) : ∀ ts : List T, T.lts m ts = true → T.lts n ts = true
  | [], _ => rfl
  | t :: ts, q => by
    simp only [T.lts, Bool.and_eq_true] at q ⊢
    exact ⟨T.lt_mono h t q.1, T.lts_mono h ts q.2⟩
end
/-- no cells within -/
abbrev Pu (t : T) : Prop := t.lt 0 = true
abbrev Pus (ts : List T) : Prop := T.lts 0 ts = true
theorem lts_all {n : Nat} : ∀ {ts : List T}, (∀ t ∈ ts, t.lt n = true) → T.lts n ts = true
  | [], _ => rfl
  | t :: ts, h => by
    simp only [T.lts, Bool.and_eq_true]
    exact ⟨h t List.mem_cons_self, lts_all fun u hu => h u (List.mem_cons_of_mem _ hu)⟩
theorem lts_mem {n : Nat} : ∀ {ts : List T}, T.lts n ts = true → ∀ t ∈ ts, t.lt n = true
  | t :: ts, h, u, hu => by
    simp only [T.lts, Bool.and_eq_true] at h
    rcases List.mem_cons.mp hu with e | e
    · rw [e]; exact h.1
    · exact lts_mem h.2 u e
theorem pus_ints (ns : List Int) : Pus (ns.map .int) := lts_all fun t ht => by obtain ⟨i, _, rfl⟩ := List.mem_map.mp ht; rfl
theorem pus_strs (ns : List (List Nat)) : Pus (ns.map .str) := lts_all fun t ht => by obtain ⟨i, _, rfl⟩ := List.mem_map.mp ht; rfl
/-- behind a def: a pure value -/
theorem back_pure {st0 st : Sto} {t : T} (ht : Pu t) (hd : okDrop st0.length st0 st = true) : back false st0 t st = .ok t (st.take st0.length) := by
  have h : (t.lt st0.length && okDrop st0.length st0 st) = true := by rw [T.lt_mono (Nat.zero_le _) t ht, hd]; rfl
  unfold back
  cases t <;> first | exact if_pos h | skip
  exact absurd ht Bool.false_ne_true
theorem end_rt {st : Sto} {t : T} {l : Sto} (ht : Pu t) : fnEnd false st (.rt t (st ++ l)) = .ok t st := by
  show back false st t (st ++ l) = _
  rw [back_pure ht (okDrop_app _ _ _), List.take_left]
theorem end_rt0 {st : Sto} {t : T} (ht : Pu t) : fnEnd false st (.rt t st) = .ok t st := by
  have := end_rt (st := st) (l := []) ht
  rwa [List.append_nil] at this
theorem end_nx {st : Sto} {e : Env} {l : Sto} : fnEnd false st (.nx e (st ++ l)) = .ok .non st := end_rt (st := st) (t := .non) rfl
theorem end_nx0 {st : Sto} {e : Env} : fnEnd false st (.nx e st) = .ok .non st := end_rt0 (st := st) (t := .non) rfl
/-! ### walks without a trace -/
theorem compGo_pure {g : G} {own : List Nat} {env : Env} {cond : Env → Sto → R Bool} {elt : Env → Sto → R T} {st : Sto} (f : T → T) (p : T → Bool) : ∀ {ts : List T}, (∀ t ∈ ts, ∃ e, bindG g t (wipeE env own) = some e ∧ cond e st = .ok (p t) st ∧ (p t = true → elt e st = .ok (f t) st)) →
    compGo g own env cond elt ts st = .ok ((ts.filter p).map f) st
  | [], _ => rfl
  | t :: ts, h => by
    obtain ⟨e, h1, h2, h3⟩ := h t List.mem_cons_self
    have ih := compGo_pure (g := g) (own := own) (env := env) (cond := cond) (elt := elt) f p (ts := ts) fun u hu => h u (List.mem_cons_of_mem _ hu)
    unfold compGo
    rw [h1]
    dsimp only
    rw [h2]
    cases hp : p t with
    | true =>
      dsimp only
      rw [h3 hp]
      dsimp only
      rw [ih, List.filter_cons_of_pos hp]
      rfl
    | false =>
      dsimp only
      rw [ih, List.filter_cons_of_neg (by rw [hp]; exact Bool.false_ne_true)]
theorem compGo_map {g : G} {own : List Nat} {env : Env} {cond : Env → Sto → R Bool} {elt : Env → Sto → R T} {st : Sto} (f : T → T) {ts : List T} (h : ∀ t ∈ ts, ∃ e, bindG g t (wipeE env own) = some e ∧ cond e st = .ok true st ∧ elt e st = .ok (f t) st) : compGo g own env cond elt ts st = .ok (ts.map f) st := by
  have := compGo_pure (g := g) (own := own) (env := env) (cond := cond) (elt := elt) (st := st) f (fun _ => true) (ts := ts) fun t ht => let ⟨e, h1, h2, h3⟩ := h t ht; ⟨e, h1, h2, fun _ => h3⟩
  rwa [List.filter_eq_self.mpr (fun _ _ => rfl)] at this
/-- a walk that changes the store -/
theorem compGo_inv {g : G} {own : List Nat} {env : Env} {cond : Env → Sto → R Bool} {elt : Env → Sto → R T} (I : Sto → Prop) (P : T → Prop) : ∀ {ts : List T} {st : Sto}, I st → (∀ t ∈ ts, ∀ st, I st → ∃ e, bindG g t (wipeE env own) = some e ∧ cond e st = .ok true st ∧ ∃ u st', elt e st = .ok u st' ∧ P u ∧ I st') →
    ∃ us st', compGo g own env cond elt ts st = .ok us st' ∧ us.length = ts.length ∧ (∀ u ∈ us, P u) ∧ I st'
  | [], st, i, _ => ⟨[], st, rfl, rfl, (fun _ h => by cases h), i⟩
  | t :: ts, st, i, h => by
    obtain ⟨e, h1, h2, u, st1, h3, p, i1⟩ := h t List.mem_cons_self st i
    obtain ⟨us, st2, h4, h5, h6, i2⟩ := compGo_inv (g := g) (own := own) (env := env) (cond := cond) (elt := elt) I P (ts := ts) i1 fun u hu => h u (List.mem_cons_of_mem _ hu)
    refine ⟨u :: us, st2, ?_, by rw [List.length_cons, List.length_cons, h5], fun v hv => ?_, i2⟩
    · unfold compGo
      rw [h1]
      dsimp only
      rw [h2]
      dsimp only
      rw [h3]
      dsimp only
      rw [h4]
    · rcases List.mem_cons.mp hv with q | q
      · rw [q]; exact p
      · exact h6 v q
/-- a loop that runs through -/
theorem exFor_inv {g : G} {body : Env → Sto → RS} (I : Env → Sto → Prop) : ∀ {ts : List T} {env : Env} {st : Sto}, I env st → (∀ t ∈ ts, ∀ env st, I env st → ∃ e, bindG g t env = some e ∧ ∃ env' st', body e st = .nx env' st' ∧ I env' st') → ∃ env' st', exFor g body ts env st = .nx env' st' ∧ I env' st'
  | [], env, st, i, _ => ⟨env, st, rfl, i⟩
  | t :: ts, env, st, i, h => by
    obtain ⟨e, h1, env1, st1, h2, i1⟩ := h t List.mem_cons_self env st i
    obtain ⟨env2, st2, h3, i2⟩ := exFor_inv (g := g) (body := body) I (ts := ts) i1 fun u hu => h u (List.mem_cons_of_mem _ hu)
    refine ⟨env2, st2, ?_, i2⟩
    unfold exFor
    rw [h1]
    dsimp only
    rw [h2]
    exact h3
/-- the same with what has been walked -/
theorem exFor_at {g : G} {body : Env → Sto → RS} (I : Nat → Env → Sto → Prop) : ∀ {ts : List T} (k : Nat) {env : Env} {st : Sto}, I k env st → (∀ i t, ts[i]? = some t → ∀ env st, I (k + i) env st → ∃ e, bindG g t env = some e ∧ ∃ env' st', body e st = .nx env' st' ∧ I (k + i + 1) env' st') →
    ∃ env' st', exFor g body ts env st = .nx env' st' ∧ I (k + ts.length) env' st'
  | [], k, env, st, i, _ => ⟨env, st, rfl, i⟩
  | t :: ts, k, env, st, i, h => by
    obtain ⟨e, h1, env1, st1, h2, i1⟩ := h 0 t rfl env st i
    obtain ⟨env2, st2, h3, i2⟩ := exFor_at (g := g) (body := body) I (ts := ts) (k + 1) (by simpa using i1) fun j u hu env st q => by
      have := h (j + 1) u (by simpa using hu) env st (by rw [show k + (j + 1) = k + 1 + j by omega]; exact q)
      rw [show k + (j + 1) + 1 = k + 1 + j + 1 by omega] at this
      exact this
    refine ⟨env2, st2, ?_, by rw [List.length_cons, show k + (ts.length + 1) = k + 1 + ts.length by omega]; exact i2⟩
    unfold exFor
    rw [h1]
    dsimp only
    rw [h2]
    exact h3
end Mu
end
section
set_option Elab.async false
set_option linter.all false
set_option maxRecDepth 100000
set_option maxHeartbeats 400001
set_option exponentiation.threshold 3000
/-! Mu, part Y: what operators and built-ins come to. -/
namespace Mu
open PySem
/-- slots -/
theorem XG : (∀ (x : Option T) (l : Env), getS 0 (x :: l) = x) ∧ (∀ (i : Nat) (x : Option T) (l : Env), getS (i + 1) (x :: l) = getS i l) := ⟨fun _ _ => rfl, fun _ _ _ => rfl⟩
theorem XN : (∀ (x : Option T) (l : Env) (t : T) (st : Sto), setS 0 t (x :: l) st = .nx (some t :: l) st) ∧ (∀ (x y : Option T) (l : Env) (t : T) (st : Sto), setS 1 t (x :: y :: l) st = .nx (x :: some t :: l) st) ∧
    (∀ (x y z : Option T) (l : Env) (t : T) (st : Sto), setS 2 t (x :: y :: z :: l) st = .nx (x :: y :: some t :: l) st) ∧ (∀ (x y z u : Option T) (l : Env) (t : T) (st : Sto), setS 3 t (x :: y :: z :: u :: l) st = .nx (x :: y :: z :: some t :: l) st) ∧
    (∀ (x y z u a : Option T) (l : Env) (t : T) (st : Sto), setS 4 t (x :: y :: z :: u :: a :: l) st = .nx (x :: y :: z :: u :: some t :: l) st) ∧ (∀ (x y z u a b : Option T) (l : Env) (t : T) (st : Sto), setS 5 t (x :: y :: z :: u :: a :: b :: l) st = .nx (x :: y :: z :: u :: a :: some t :: l) st) ∧
    (∀ (x y z u a b c : Option T) (l : Env) (t : T) (st : Sto), setS 6 t (x :: y :: z :: u :: a :: b :: c :: l) st = .nx (x :: y :: z :: u :: a :: b :: some t :: l) st) ∧ (∀ (x y z u a b c d : Option T) (l : Env) (t : T) (st : Sto), setS 7 t (x :: y :: z :: u :: a :: b :: c :: d :: l) st = .nx (x :: y :: z :: u :: a :: b :: c :: some t :: l) st) ∧
    (∀ (x y z u a b c d e : Option T) (l : Env) (t : T) (st : Sto), setS 8 t (x :: y :: z :: u :: a :: b :: c :: d :: e :: l) st = .nx (x :: y :: z :: u :: a :: b :: c :: d :: some t :: l) st) ∧ (∀ (x y z u a b c d e f : Option T) (l : Env) (t : T) (st : Sto), setS 9 t (x :: y :: z :: u :: a :: b :: c :: d :: e :: f :: l) st = .nx (x :: y :: z :: u :: a :: b :: c :: d :: e :: some t :: l) st) := by
  refine ⟨?_, ?_, ?_, ?_, ?_, ?_, ?_, ?_, ?_, ?_⟩ <;> intros <;> simp [setS]
theorem XW : (∀ t env, bindG (.nm 0) t env = if 0 < env.length then some (env.set 0 (some t)) else none) ∧ (∀ i t env, bindG (.nm i) t env = if i < env.length then some (env.set i (some t)) else none) ∧
    (∀ a b x y env, bindG (.two a b) (.tup [x, y]) env = (bindG a x env).bind fun e => bindG b y e) ∧ (∀ a b c x y z env, bindG (.three a b c) (.tup [x, y, z]) env = (bindG a x env).bind fun e => (bindG b y e).bind fun e => bindG c z e) ∧
    (∀ env, wipeE env [] = env) ∧ (∀ env v vs, wipeE env (v :: vs) = (wipeE env vs).set v none) := ⟨fun _ _ => rfl, fun _ _ _ => rfl, fun _ _ _ _ _ => rfl, fun _ _ _ _ _ _ _ => rfl, fun _ => rfl, fun _ _ _ => rfl⟩
/-- operators -/
theorem XB : (∀ i j, binV .Add (.int i) (.int j) = some (.int (i + j))) ∧ (∀ i j, binV .Sub (.int i) (.int j) = some (.int (i - j))) ∧ (∀ i j, binV .BitAnd (.int i) (.int j) = some (.int (Builtin.bitAnd i j))) := ⟨fun _ _ => rfl, fun _ _ => rfl, fun _ _ => rfl⟩
theorem b_mul {i j : Int} (h : mulOk i j = true) : binV .Mult (.int i) (.int j) = some (.int (i * j)) := if_pos h
theorem b_fdiv {i j : Int} (h : 0 < j ∧ j < 2 ^ 2000) : binV .FloorDiv (.int i) (.int j) = some (.int (i / j)) := if_pos h
theorem b_mod {i j : Int} (h : 0 < j) : binV .Mod (.int i) (.int j) = some (.int (i % j)) := if_pos h
theorem b_pow {i j : Int} (h : 0 ≤ j ∧ j ≤ 64 ∧ -mid < i ∧ i < mid) : binV .Pow (.int i) (.int j) = some (.int (i ^ j.toNat)) := if_pos h
theorem b_shl {i j : Int} (h : 0 ≤ j ∧ j ≤ 64 ∧ -mid < i ∧ i < mid) : binV .LShift (.int i) (.int j) = some (.int (i * 2 ^ j.toNat)) := if_pos h
theorem b_adds {a b : List Nat} (h : a.length + b.length ≤ big) : binV .Add (.str a) (.str b) = some (.str (a ++ b)) := if_pos h
theorem b_addl {a b : List T} (h : a.length + b.length ≤ big) : binV .Add (.lst a) (.lst b) = some (.lst (a ++ b)) := if_pos h
theorem b_addt {a b : List T} (h : a.length + b.length ≤ big) : binV .Add (.tup a) (.tup b) = some (.tup (a ++ b)) := if_pos h
theorem mul_r {i j : Int} (h : -mid < j ∧ j < mid) : mulOk i j = true := by simp [mulOk, h]
theorem mul_l {i j : Int} (h : -mid < i ∧ i < mid) : mulOk i j = true := by simp [mulOk, h]
/-- comparisons -/
theorem XQ (st : Sto) : (∀ i j, cmpT st .Lt (.int i) (.int j) = some (decide (i < j))) ∧ (∀ i j, cmpT st .LtE (.int i) (.int j) = some (decide (i ≤ j))) ∧ (∀ i j, cmpT st .Gt (.int i) (.int j) = some (decide (j < i))) ∧ (∀ i j, cmpT st .GtE (.int i) (.int j) = some (decide (j ≤ i))) ∧
    (∀ i j, cmpT st .Eq (.int i) (.int j) = some (decide (i = j))) ∧ (∀ i j, cmpT st .NotEq (.int i) (.int j) = some (!decide (i = j))) ∧ (∀ a b, cmpT st .Eq (.str a) (.str b) = some (decide (a = b))) ∧ (∀ a b, cmpT st .NotEq (.str a) (.str b) = some (!decide (a = b))) ∧
    (∀ a b, cmpT st .Lt (.str a) (.str b) = some (strLt a b)) ∧ (∀ a b, cmpT st .LtE (.str a) (.str b) = some (!strLt b a)) ∧ (∀ a b, cmpT st .Gt (.str a) (.str b) = some (strLt b a)) ∧ (∀ a b, cmpT st .GtE (.str a) (.str b) = some (!strLt a b)) ∧
    (∀ a, cmpT st .Is a .non = some (isN a)) ∧ (∀ a, cmpT st .IsNot a .non = some (!isN a)) ∧ (∀ c z, cmpT st .In (.str [c]) (.str z) = some (decide (c ∈ z))) ∧ (∀ c z, cmpT st .NotIn (.str [c]) (.str z) = some (!decide (c ∈ z))) ∧
    isN .non = true ∧ (∀ i, isN (.int i) = false) ∧ (∀ x, isN (.str x) = false) ∧ (∀ x, isN (.tup x) = false) ∧ (∀ x, isN (.lst x) = false) ∧ (∀ x, isN (.bl x) = false) := by
  refine ⟨fun _ _ => rfl, fun _ _ => rfl, fun _ _ => rfl, fun _ _ => rfl, fun i j => ?_, fun i j => ?_, fun _ _ => rfl, fun _ _ => rfl, fun _ _ => rfl, fun _ _ => rfl, fun _ _ => rfl, fun _ _ => rfl, ?_, ?_, fun _ _ => rfl, fun _ _ => rfl, rfl, fun _ => rfl, fun _ => rfl, fun _ => rfl, fun _ => rfl, fun _ => rfl⟩
  · simp [cmpT, eqT, T.dat, T.eqv]
  · simp [cmpT, eqT, T.dat, T.eqv]
  · intro a; cases a <;> rfl
  · intro a; cases a <;> rfl
/-- truth -/
theorem XU (st : Sto) : (∀ b, truV st (.bl b) = some b) ∧ truV st .non = some false ∧ (∀ i, truV st (.int i) = some (decide (i ≠ 0))) ∧ (∀ ts, truV st (.tup ts) = some (!ts.isEmpty)) ∧ (∀ ts, truV st (.lst ts) = some (!ts.isEmpty)) := ⟨fun _ => rfl, rfl, fun _ => rfl, fun _ => rfl, fun _ => rfl⟩
/-- items, slices -/
theorem XA {α : Type} : (∀ (a : α) l, atT (a :: l) 0 = some a) ∧ (∀ (a b : α) l, atT (a :: b :: l) 1 = some b) ∧ (∀ (a b c : α) l, atT (a :: b :: c :: l) 2 = some c) ∧ (∀ (a b c d : α) l, atT (a :: b :: c :: d :: l) 3 = some d) := ⟨fun _ _ => rfl, fun _ _ _ => rfl, fun _ _ _ _ => rfl, fun _ _ _ _ _ => rfl⟩
theorem at_nat {α : Type} {xs : List α} {i : Nat} : atT xs (i : Int) = xs[i]? := by
  unfold atT
  rw [if_pos (Int.natCast_nonneg i)]
  rfl
theorem XJ (st : Sto) : (∀ ts i, ixT st (.tup ts) (.int i) = atT ts i) ∧ (∀ ts i, ixT st (.lst ts) (.int i) = atT ts i) ∧ (∀ ns i, ixT st (.scr ns) (.int i) = (atT ns i).map .int) ∧
    (∀ ks ts cs, ixT st (.dic ks ts) (.str cs) = findK (.s cs) ks ts) ∧ (∀ ks ts i, ixT st (.dic ks ts) (.int i) = findK (.i i) ks ts) := ⟨fun _ _ => rfl, fun _ _ => rfl, fun _ _ => rfl, fun _ _ _ => rfl, fun _ _ _ => rfl⟩
theorem ix_str {st : Sto} {cs : List Nat} {i : Int} (h : cs.length ≤ big) : ixT st (.str cs) (.int i) = (atT cs i).map fun c => T.str [c] := if_pos h
theorem ix_cell {st : Sto} {n : Nat} {ts : List T} {i : Int} (h : cellO st n = some (.lst ts)) : ixT st (.cell n) (.int i) = atT ts i := by
  simp [ixT, lstOf, h]
theorem ix_dcell {st : Sto} {n : Nat} {ks : List Ky} {ts : List T} {cs : List Nat} (h : cellO st n = some (.dic ks ts)) : ixT st (.cell n) (.str cs) = findK (.s cs) ks ts := by
  simp [ixT, lstOf, dicOf, keyT, h]
def setT (ts : List T) (i : Int) (v : T) : Option (List T) := if 0 ≤ i ∧ i < ts.length then some (ts.set i.toNat v) else none
theorem put_cell {st : Sto} {n : Nat} {ts : List T} {i : Int} {v : T} (h : cellO st n = some (.lst ts)) : putT st (.cell n) (.int i) v = (setT ts i v).map fun l => putO st n (.lst l) := by
  unfold setT
  by_cases h2 : 0 ≤ i ∧ i < ts.length <;> simp [putT, h, h2]
theorem XP : (∀ (a v : T) l, setT (a :: l) 0 v = some (v :: l)) ∧ (∀ (a b v : T) l, setT (a :: b :: l) 1 v = some (a :: v :: l)) ∧ (∀ (a b c v : T) l, setT (a :: b :: c :: l) 2 v = some (a :: b :: v :: l)) := by
  refine ⟨fun a v l => ?_, fun a b v l => ?_, fun a b c v l => ?_⟩ <;> unfold setT <;> rw [if_pos] <;> first | rfl | (simp only [List.length_cons]; omega)
theorem put_dcell {st : Sto} {n : Nat} {ks : List Ky} {ts : List T} {cs : List Nat} {v : T} (h : cellO st n = some (.dic ks ts)) (h2 : ks.length < big) : putT st (.cell n) (.str cs) v = some (putO st n (.dic (putKy (.s cs) v ks ts).1 (putKy (.s cs) v ks ts).2)) := by
  simp [putT, keyT, h, h2]
/-- built-ins -/
theorem XL (pg : Pg) (st : Sto) : (∀ ts, blT pg st .len [.tup ts] = some (.int ts.length)) ∧ (∀ ts, blT pg st .len [.lst ts] = some (.int ts.length)) ∧ (∀ ns, blT pg st .len [.scr ns] = some (.int ns.length)) ∧ (∀ i, blT pg st .int [.int i] = some (.int i)) ∧ (∀ b, blT pg st .int [.bl b] = some (.int (if b then 1 else 0))) ∧
    (∀ i, blT pg st .abs [.int i] = some (.int (if i < 0 then -i else i))) ∧ (∀ i j, blT pg st .max2 [.int i, .int j] = some (.int (if j > i then j else i))) ∧ (∀ i j, blT pg st .min2 [.int i, .int j] = some (.int (if j < i then j else i))) ∧
    (∀ ts, blT pg st .tuple [.tup ts] = some (.tup ts)) ∧ (∀ ts, blT pg st .tuple [.lst ts] = some (.tup ts)) ∧ (∀ ts, blT pg st .list [.tup ts] = some (.lst ts)) ∧ (∀ ts, blT pg st .list [.lst ts] = some (.lst ts)) ∧
    (∀ x c, blT pg st .isi [x, c] = (isiT pg st x c).map .bl) := ⟨fun _ => rfl, fun _ => rfl, fun _ => rfl, fun _ => rfl, fun _ => rfl, fun _ => rfl, fun _ _ => rfl, fun _ _ => rfl, fun _ => rfl, fun _ => rfl, fun _ => rfl, fun _ => rfl, fun _ _ => rfl⟩
theorem bl_lens {pg : Pg} {st : Sto} {cs : List Nat} (h : cs.length ≤ big) : blT pg st .len [.str cs] = some (.int cs.length) := if_pos h
theorem bl_div {pg : Pg} {st : Sto} {i j : Int} (h : 0 < j ∧ j < 2 ^ 2000) : blT pg st .divmod [.int i, .int j] = some (.tup [.int (i / j), .int (i % j)]) := by
  have e : divT [.int i, .int j] = some (.tup [.int (i / j), .int (i % j)]) := if_pos h
  exact e
theorem ints_map : ∀ ns : List Int, intsT (ns.map T.int) = some ns
  | [] => rfl
  | n :: ns => by simp [intsT, ints_map ns]
theorem bls_map : ∀ bs : List Bool, blsT (bs.map T.bl) = some bs
  | [] => rfl
  | b :: bs => by simp [blsT, bls_map bs]
theorem strs_map : ∀ xs : List (List Nat), strsT (xs.map T.str) = some xs
  | [] => rfl
  | x :: xs => by simp [strsT, strs_map xs]
theorem bl_sumt {pg : Pg} {st : Sto} {ns : List Int} : blT pg st .sum [.tup (ns.map .int)] = some (.int ns.sum) := by
  show (intsT (ns.map T.int)).map _ = _
  rw [ints_map]
  rfl
theorem bl_suml {pg : Pg} {st : Sto} {ns : List Int} : blT pg st .sum [.lst (ns.map .int)] = some (.int ns.sum) := by
  show (intsT (ns.map T.int)).map _ = _
  rw [ints_map]
  rfl
theorem bl_alll {pg : Pg} {st : Sto} {bs : List Bool} : blT pg st .all [.lst (bs.map .bl)] = some (.bl (bs.all id)) := by
  show (blsT (bs.map T.bl)).map _ = _
  rw [bls_map]
  rfl
theorem bl_anyl {pg : Pg} {st : Sto} {bs : List Bool} : blT pg st .any [.lst (bs.map .bl)] = some (.bl (bs.any id)) := by
  show (blsT (bs.map T.bl)).map _ = _
  rw [bls_map]
  rfl
theorem mt_join {st : Sto} {sep : List Nat} {xs : List (List Nat)} (h : (xs.map List.length).sum + xs.length * sep.length ≤ big) : mtT st .join (.str sep) [.lst (xs.map .str)] = .ok (.str (joinS sep xs)) st := by
  show (match (some (xs.map T.str)).bind strsT with
    | some xs => if (xs.map List.length).sum + xs.length * sep.length ≤ big then R.ok (T.str (joinS sep xs)) st else .bad
    | none => .bad) = _
  rw [Option.bind_some, strs_map]
  exact if_pos h
theorem mt_joint {st : Sto} {sep : List Nat} {xs : List (List Nat)} (h : (xs.map List.length).sum + xs.length * sep.length ≤ big) : mtT st .join (.str sep) [.tup (xs.map .str)] = .ok (.str (joinS sep xs)) st := by
  show (match (some (xs.map T.str)).bind strsT with
    | some xs => if (xs.map List.length).sum + xs.length * sep.length ≤ big then R.ok (T.str (joinS sep xs)) st else .bad
    | none => .bad) = _
  rw [Option.bind_some, strs_map]
  exact if_pos h
theorem join_nil : ∀ xs : List (List Nat), joinS [] xs = xs.flatten
  | [] => rfl
  | [x] => by simp [joinS]
  | x :: y :: r => by
    have := join_nil (y :: r)
    simp only [joinS, List.append_nil, List.flatten_cons] at this ⊢
    rw [this]
/-- walks over a range, signs -/
theorem items_str {st : Sto} {cs : List Nat} : itemsOf st (.str cs) = some (cs.map fun c => T.str [c]) := rfl
theorem XO (st : Sto) : (∀ ts, itemsOf st (.tup ts) = some ts) ∧ (∀ ts, itemsOf st (.lst ts) = some ts) ∧ (∀ cs, itemsOf st (.str cs) = some (cs.map fun c => T.str [c])) ∧ (∀ ns, itemsOf st (.scr ns) = some (ns.map .int)) := ⟨fun _ => rfl, fun _ => rfl, fun _ => rfl, fun _ => rfl⟩
theorem range_mem {lo hi : Int} {t : T} (h : t ∈ rangeT lo hi) : ∃ k : Nat, t = .int (lo + k) ∧ (k : Int) < hi - lo := by
  obtain ⟨k, hk, rfl⟩ := List.mem_map.mp h
  exact ⟨k, rfl, by have := List.mem_range.mp hk; omega⟩
/-! ### jars -/
structure Jar where
  a : Int
  b : Int
  c : Int
def Jar.o (j : Jar) : O := .lst [.int j.a, .int j.b, .int j.c]
def Jar.ok (j : Jar) : Prop := 0 ≤ j.a ∧ 0 ≤ j.b ∧ 0 ≤ j.c
/-- st has a jar at n -/
def HasJ (st : Sto) (n : Nat) : Prop := ∃ j : Jar, j.ok ∧ st[n]? = some (some j.o)
/-- only the jar at n has changed -/
def Jgo (n : Nat) (st st' : Sto) : Prop := ∃ j : Jar, j.ok ∧ st' = putO st n j.o
theorem HasJ.go {st st' : Sto} {n : Nat} (h : HasJ st n) (g : Jgo n st st') : HasJ st' n := by
  obtain ⟨_, _, e⟩ := h
  obtain ⟨j, ok, rfl⟩ := g
  exact ⟨j, ok, get_put e⟩
theorem Jgo.refl {st : Sto} {n : Nat} (h : HasJ st n) : Jgo n st st := by
  obtain ⟨j, ok, e⟩ := h
  refine ⟨j, ok, ?_⟩
  obtain ⟨hl, e⟩ := List.getElem?_eq_some_iff.mp e
  unfold putO
  rw [← e, List.set_getElem_self]
theorem Jgo.trans {st st1 st2 : Sto} {n : Nat} (g : Jgo n st st1) (g' : Jgo n st1 st2) : Jgo n st st2 := by
  obtain ⟨j, ok, rfl⟩ := g
  obtain ⟨j', ok', rfl⟩ := g'
  exact ⟨j', ok', put_put⟩
theorem Jgo.len {st st' : Sto} {n : Nat} (g : Jgo n st st') : st'.length = st.length := by
  obtain ⟨j, ok, rfl⟩ := g
  exact put_len
theorem HasJ.lt {st : Sto} {n : Nat} (h : HasJ st n) : n < st.length := by
  obtain ⟨j, ok, e⟩ := h
  exact (List.getElem?_eq_some_iff.mp
          e).1
/-- with cells of one's own behind -/
theorem HasJ.app {st l : Sto} {n : Nat} (h : HasJ st n) : HasJ (st ++ l) n := by
  obtain ⟨j, ok, e⟩ := h
  exact ⟨j, ok, by rw [List.getElem?_append_left (List.getElem?_eq_some_iff.mp e).1]; exact e⟩
theorem Jgo.app {st l s2 : Sto} {n : Nat} (h : HasJ st n) (g : Jgo n (st ++ l) s2) : ∃ st', s2 = st' ++ l ∧ Jgo n st st' := by
  obtain ⟨j, ok, rfl⟩ := g
  exact ⟨putO st n j.o, by unfold putO; rw [List.set_append_left _ _ h.lt], j, ok, rfl⟩
/-- behind a def that used the jar -/
theorem end_j {st st' l : Sto} {n : Nat} {t : T} (h : HasJ st n) (g : Jgo n st st') (ht : Pu t) : fnEnd false st (.rt t (st' ++ l)) = .ok t st' := by
  obtain ⟨j, ok, rfl⟩ := g
  obtain ⟨j0, _, e⟩ := h
  show back false st t (putO st n j.o ++ l) = _
  rw [back_pure ht (okDrop_put _ _ _ (by simp [Jar.o, O.lt, T.lts, T.lt]) _ _ ⟨_, e⟩), List.take_left' put_len]
theorem end_j0 {st st' : Sto} {n : Nat} {t : T} (h : HasJ st n) (g : Jgo n st st') (ht : Pu t) : fnEnd false st (.rt t st') = .ok t st' := by
  have := end_j (l := []) h g ht
  rwa [List.append_nil] at this
end Mu
namespace Mu
/-- all the rules of running -/
def XALL (pg : Pg) (F : Nat → List T → Sto → R T) (st : Sto) := And.intro (XS pg F) (And.intro (XE pg F) (And.intro (XT pg F) (And.intro (XI pg F) (And.intro XG (And.intro XN (And.intro XB (And.intro (XQ st) (And.intro (XU st) (And.intro (XJ st) (And.intro (XL pg st) (And.intro (XO st) XP)))))))))))
end Mu
end
section
set_option Elab.async false
set_option linter.all false
set_option maxRecDepth 100000
set_option maxHeartbeats 400001
set_option exponentiation.threshold 3000
/-! Mu, part W: comprehensions over mapped lists, small matters. -/
namespace Mu
open PySem
theorem compGo_ofp {α : Type} {g : G} {own : List Nat} {env : Env} {cond : Env → Sto → R Bool} {elt : Env → Sto → R T} {st : Sto} (u f : α → T) (p : α → Bool) : ∀ {xs : List α}, (∀ x ∈ xs, ∃ e, bindG g (u x) (wipeE env own) = some e ∧ cond e st = .ok (p x) st ∧ (p x = true → elt e st = .ok (f x) st)) →
    compGo g own env cond elt (xs.map u) st = .ok ((xs.filter p).map f) st
  | [], _ => rfl
  | t :: ts, h => by
    obtain ⟨e, h1, h2, h3⟩ := h t List.mem_cons_self
    have ih := compGo_ofp (g := g) (own := own) (env := env) (cond := cond) (elt := elt) u f p (xs := ts) fun u hu => h u (List.mem_cons_of_mem _ hu)
    rw [List.map_cons]
    unfold compGo
    rw [h1]
    dsimp only
    rw [h2]
    cases hp : p t with
    | true =>
      dsimp only
      rw [h3 hp]
      dsimp only
      rw [ih, List.filter_cons_of_pos hp]
      rfl
    | false =>
      dsimp only
      rw [ih, List.filter_cons_of_neg (by rw [hp]; exact Bool.false_ne_true)]
theorem compGo_of {α : Type} {g : G} {own : List Nat} {env : Env} {cond : Env → Sto → R Bool} {elt : Env → Sto → R T} {st : Sto} (u f : α → T) {xs : List α} (h : ∀ x ∈ xs, ∃ e, bindG g (u x) (wipeE env own) = some e ∧ cond e st = .ok true st ∧ elt e st = .ok (f x) st) :
    compGo g own env cond elt (xs.map u) st = .ok (xs.map f) st := by
  have := compGo_ofp (g := g) (own := own) (env := env) (cond := cond) (elt := elt) (st := st) u f (fun _ => true) (xs := xs) fun t ht => let ⟨e, h1, h2, h3⟩ := h t ht; ⟨e, h1, h2, fun _ => h3⟩
  rwa [List.filter_eq_self.mpr (fun _ _ => rfl)] at this
theorem cmpK_f {n : Nat} {st : Sto} {ys : List T} (h : n ≤ 1000000) : cmpK false n (.ok ys st) = .ok (.lst ys) st := if_pos h
theorem cmpK_t {n : Nat} {st : Sto} {ys : List T} (h : n ≤ 1000000) : cmpK true n (.ok ys st) = .ok (.cell st.length) (st ++ [some (.lst ys)]) := if_pos h
theorem at_int {α : Type} {xs : List α} {k : Int} (h0 : 0 ≤ k) (h : k < xs.length) : ∃ (x : α), atT xs k = some x ∧ x ∈ xs := by
  obtain ⟨m,
          rfl⟩ := Int.eq_ofNat_of_zero_le h0
  have hl : m < xs.length := by omega
  exact ⟨xs[m], by rw [at_nat]; exact List.getElem?_eq_getElem hl, List.getElem_mem hl⟩
theorem all_map {α : Type} {pg : Pg} {st : Sto} {p : α → Bool} {xs : List α} : blT pg st .all [.lst (xs.map fun x => T.bl (p x))] = some (.bl (xs.all p)) := by
  have e : (xs.map fun x => T.bl (p x)) = (xs.map p).map T.bl := by rw [List.map_map]; rfl
  rw [e, bl_alll, List.all_map]
  rfl
theorem join_map {α : Type} {st : Sto} {f : α → List Nat} {xs : List α} (h : (xs.map fun x => (f x).length).sum ≤ big) : mtT st .join (.str []) [.lst (xs.map fun x => T.str (f x))] = .ok (.str (xs.flatMap f)) st := by
  have e : (xs.map fun x => T.str (f x)) = (xs.map f).map T.str := by rw [List.map_map]; rfl
  have h2 : ((xs.map f).map List.length).sum + (xs.map f).length * ([] : List Nat).length ≤ big := by
    rw [List.map_map, List.length_nil, Nat.mul_zero, Nat.add_zero]
    exact h
  rw [e, mt_join h2, join_nil, List.flatMap_def]
theorem flat_ones {α β : Type} {f : α → β} : ∀ {xs : List α}, xs.flatMap (fun x => [f x]) = xs.map f
  | [] => rfl
  | x :: xs => by
    rw [List.flatMap_cons, flat_ones]
    rfl
theorem ones_sum {α : Type} : ∀ {xs : List α}, (xs.map fun _ => 1).sum = xs.length
  | [] => rfl
  | x :: xs => by
    rw [List.map_cons, List.sum_cons, ones_sum, List.length_cons, Nat.add_comm]
theorem join_ones {α : Type} {st : Sto} {f : α → Nat} {xs : List α} (h : xs.length ≤ big) : mtT st .join (.str []) [.lst (xs.map fun x => T.str [f x])] = .ok (.str (xs.map f)) st := by
  rw [join_map (st := st) (f := fun x => [f x]) (xs := xs) (by
    show (xs.map fun _ => 1).sum ≤ big
    rw [ones_sum]
    exact h), flat_ones]
theorem zipT_map {α β : Type} {u : α → T} {v : β → T} : ∀ {xs : List α} {ys : List β}, zipT (xs.map u) (ys.map v) = (List.zip xs ys).map fun p => T.tup [u p.1, v p.2]
  | [], _ => by cases ‹List β› <;> rfl
  | _ :: _, [] => rfl
  | x :: xs, y :: ys => by
    show _ :: zipT (xs.map u) (ys.map v) = _
    rw [zipT_map]
    rfl
theorem zip_strs {st : Sto} {x y : List Nat} : zipOf st (.str x) (.str y) = some ((List.zip x y).map fun p => T.tup [.str [p.1], .str [p.2]]) := by
  show some (zipT (x.map fun c => T.str [c]) (y.map fun c => T.str [c])) = _
  rw [zipT_map]
theorem eq_strs {x y : List Nat} (hx : x.all (fun c => decide (c < 1114112)) = true) (hy : y.all (fun c => decide (c < 1114112)) = true) : eqT (.str x) (.str y) = some (decide (x = y)) := by
  unfold eqT
  simp only [T.dat, hx, hy, Bool.and_self, if_true, T.eqv]
/-- is a text among texts -/
theorem in_strs {x : List Nat} (hx : x.all (fun c => decide (c < 1114112)) = true) : ∀ {ys : List (List Nat)}, (∀ y ∈ ys, y.all (fun c => decide (c < 1114112)) = true) → inT (.str x) (ys.map .str) = some (decide (x ∈ ys))
  | [], _ => by
    unfold inT
    simp [T.dat, hx]
  | y :: ys, h => by
    have ih := in_strs hx (ys := ys) fun z hz => h z (List.mem_cons_of_mem _ hz)
    rw [List.map_cons]
    unfold inT
    rw [eq_strs (h y List.mem_cons_self) hx, ih]
    simp only [Option.bind_some, Option.map_some, List.mem_cons]
    congr 1
    by_cases e : x = y
    · simp [e]
    · simp [e, Ne.symm e]
theorem in_tup {st : Sto} {x : List Nat} {ts : List T} : cmpT st .In (.str x) (.tup ts) = if flatT (.str x) = true ∧ ts.all flatT = true then some (ts.any fun t => T.eqv t (.str x)) else none := by
  cases x with
  | nil => rfl
  | cons c l => cases l <;> rfl
theorem notin_tup {st : Sto} {x : List Nat} {ts : List T} : cmpT st .NotIn (.str x) (.tup ts) = if flatT (.str x) = true ∧ ts.all flatT = true then some (!ts.any fun t => T.eqv t (.str x)) else none := by
  cases x with
  | nil => rfl
  | cons c l => cases l <;> rfl
theorem in_tup2 {st : Sto} {x a b : List Nat} : cmpT st .In (.str x) (.tup [.str a, .str b]) = some (decide (a = x) || decide (b = x)) := by
  rw [in_tup, if_pos ⟨rfl, rfl⟩]
  simp [T.eqv]
theorem notin_tup2 {st : Sto} {x a b : List Nat} : cmpT st .NotIn (.str x) (.tup [.str a, .str b]) = some (!(decide (a = x) || decide (b = x))) := by
  rw [notin_tup, if_pos ⟨rfl, rfl⟩]
  simp [T.eqv]
theorem in_tups {st : Sto} {x : List Nat} {ys : List (List Nat)} : cmpT st .In (.str x) (.tup (ys.map .str)) = some (decide (x ∈ ys)) := by
  have h : ∀ zs : List (List Nat), (zs.map T.str).all flatT = true := fun zs => by
    rw [List.all_map]
    exact List.all_eq_true.mpr fun _ _ =>
            rfl
  have h2 : ∀ zs : List (List Nat), ((zs.map T.str).any fun t => T.eqv t (.str x)) = decide (x ∈ zs) := fun zs => by
    induction zs with
    | nil => rfl
    | cons z zs ih =>
      rw [List.map_cons, List.any_cons, ih]
      simp only [T.eqv, List.mem_cons]
      by_cases e : x = z
      · simp [e]
      · simp [e, Ne.symm e]
  rw [in_tup, if_pos ⟨rfl, h ys⟩, h2]
theorem in_lst {st : Sto} {x : List Nat} {ts : List T} : cmpT st .In (.str x) (.lst ts) = inT (.str x) ts := by
  cases x with
  | nil => rfl
  | cons c l => cases l <;> rfl
theorem notin_lst {st : Sto} {x : List Nat} {ts : List T} : cmpT st .NotIn (.str x) (.lst ts) = (inT (.str x) ts).map fun c => !c := by
  cases x with
  | nil => rfl
  | cons c l => cases l <;> rfl
theorem notin_cell {st : Sto} {n : Nat} {x : List Nat} {ts : List T} (h : cellO st n = some (.lst ts)) : cmpT st .NotIn (.str x) (.cell n) = (inT (.str x) ts).map fun c => !c := by
  have e : lstOf st (.cell n) = some ts := by simp [lstOf, h]
  cases x with
  | nil => simp only [cmpT, e]
  | cons c l => cases l <;> simp only [cmpT, e]
theorem XR (st : Sto) : (∀ sep, rcv st .join (.str sep) = true) ∧ (∀ ts, rcv st .append (.lst ts) = true) := ⟨fun _ => rfl, fun _ => rfl⟩
theorem rcv_cell {st : Sto} {n : Nat} {ts : List T} (h : cellO st n = some (.lst ts)) : rcv st .append (.cell n) = true := by simp [rcv, lstOf, h]
theorem app_cell {st : Sto} {n : Nat} {ts : List T} {t : T} (h : cellO st n = some (.lst ts)) (hb : ts.length < big) : mtT st .append (.cell n) [t] = .ok .non (putO st n (.lst (ts ++ [t]))) := by
  simp [mtT, h, hb]
theorem small {n : Nat} (h : n ≤ 1000) : n ≤ big := Nat.le_trans h (by decide)
theorem XD : 0 ≤ big ∧ 1 ≤ big ∧ 2 ≤ big ∧ 3 ≤ big ∧ 4 ≤ big ∧ 5 ≤ big ∧ 6 ≤ big ∧ 7 ≤ big ∧ 8 ≤ big := by decide
theorem XV : (∀ env, wipeE env [] = env) ∧ (∀ env v vs, wipeE env (v :: vs) = (wipeE env vs).set v none) := ⟨fun _ => rfl, fun _ _ _ => rfl⟩
theorem XM : (∀ (st : Sto) ts, mkO false st (.lst ts) = .ok (.lst ts) st) ∧ (∀ (st : Sto) ks ts, mkO false st (.dic ks ts) = .ok (.dic ks ts) st) ∧ (∀ (st : Sto) o, mkO true st o = .ok (.cell st.length) (st ++ [some o])) := ⟨fun _ _ => rfl, fun _ _ _ => rfl, fun _ _ => rfl⟩
theorem XGS : (∀ i, gS (.nm i) = [i]) ∧ (∀ i j, gS (.two (.nm i) (.nm j)) = [i, j]) := ⟨fun _ => rfl, fun _ _ => rfl⟩
theorem range_map {n : Nat} : rangeT 0 (n : Int) = (List.range n).map fun (k : Nat) => T.int k := by
  unfold rangeT
  simp
theorem rng_nat {n : Nat} {st : Sto} (h : n ≤ 1000000) : Krng1 (.int (n : Int)) st = .ok ((List.range n).map fun (k : Nat) => T.int k) st := by
  rw [← range_map]
  unfold Krng1
  have h2 : -(2 ^ 62) ≤ (n : Int) ∧ (n : Int) < 2 ^ 62 := ⟨by omega, by omega⟩
  simp only [h2, and_self, if_true]
end Mu
namespace Mu
open PySem
/-- a walk that looks for the first one -/
theorem exFor_find {α : Type} {g : G} {body : Env → Sto → RS} {st : Sto} (u : α → T) (p : α → Bool) (r : α → T) (I : Env → Prop) : ∀ {xs : List α} {env : Env}, I env →
    (∀ x ∈ xs, ∀ env, I env → ∃ e, bindG g (u x) env = some e ∧ ((p x = true ∧ body e st = .rt (r x) st) ∨ (p x = false ∧ ∃ env', body e st = .nx env' st ∧ I env'))) →
    (∃ x, xs.find? p = some x ∧ exFor g body (xs.map u) env st = .rt (r x) st) ∨ (xs.find? p = none ∧ ∃ env', exFor g body (xs.map u) env st = .nx env' st ∧ I env')
  | [], env, i, _ => .inr ⟨rfl, env, rfl, i⟩
  | x :: xs, env, i, h => by
    obtain ⟨e, h1, h2⟩ := h x List.mem_cons_self env i
    rw [List.map_cons]
    unfold exFor
    rw [h1]
    dsimp only
    rcases h2 with ⟨hp, hb⟩ | ⟨hp, env', hb, i'⟩
    · refine .inl ⟨x, List.find?_cons_of_pos hp, ?_⟩
      rw [hb]
    · rw [hb, List.find?_cons_of_neg (by rw [hp]; exact Bool.false_ne_true)]
      exact exFor_find u p r I i' fun y hy => h y (List.mem_cons_of_mem _ hy)
end Mu
namespace Mu
open PySem
theorem exFor_findC {α : Type} {g : G} {body : Env → Sto → RS} {st : Sto} (C : RS → Prop) (u : α → T) (p : α → Bool) (r : α → T) (I : Env → Prop) {xs : List α} {env : Env} (i : I env)
    (h : ∀ x ∈ xs, ∀ env, I env → ∃ e, bindG g (u x) env = some e ∧ ((p x = true ∧ body e st = .rt (r x) st) ∨ (p x = false ∧ ∃ env', body e st = .nx env' st ∧ I env')))
    (hs : ∀ x, xs.find? p = some x → C (.rt (r x) st)) (hn : xs.find? p = none → ∀ env', I env' → C (.nx env' st)) : C (exFor g body (xs.map u) env st) := by
  rcases exFor_find u p r I i h with ⟨x, e1, e2⟩ | ⟨e1, env', e2, i'⟩
  · rw [e2]; exact hs x e1
  · rw [e2]; exact hn e1 env' i'
theorem exFor_invC {g : G} {body : Env → Sto → RS} (C : RS → Prop) (I : Env → Sto → Prop) {ts : List T} {env : Env} {st : Sto} (i : I env st)
    (h : ∀ t ∈ ts, ∀ env st, I env st → ∃ e, bindG g t env = some e ∧ ∃ env' st', body e st = .nx env' st' ∧ I env' st')
    (hc : ∀ env' st', I env' st' → C (.nx env' st')) : C (exFor g body ts env st) := by
  obtain ⟨env', st', e, i'⟩ := exFor_inv I i h
  rw [e]; exact hc env' st' i'
theorem comp2Go_of {α β : Type} {g1 g2 : G} {own vs1 : List Nat} {env : Env} {it2 : Env → Sto → R (List T)} {cond : Env → Sto → R Bool} {elt : Env → Sto → R T} {st : Sto} (u : α → T) (v : β → T) (f : α → β → T) (p : α → β → Bool) (ys : α → List β) : ∀ {xs : List α},
    (∀ x ∈ xs, ∃ e, bindG g1 (u x) (wipeE env own) = some e ∧ it2 e st = .ok ((ys x).map v) st ∧ (ys x).length ≤ 4000 ∧ ∀ y ∈ ys x, ∃ e2, bindG g2 (v y) (wipeE e vs1) = some e2 ∧ cond e2 st = .ok (p x y) st ∧ (p x y = true → elt e2 st = .ok (f x y) st)) →
    comp2Go g1 g2 own vs1 env it2 cond elt (xs.map u) st = .ok (xs.flatMap fun x => ((ys x).filter (p x)).map (f x)) st
  | [], _ => rfl
  | x :: xs, h => by
    obtain ⟨e, h1, h2, h3, h4⟩ := h x List.mem_cons_self
    have ih := comp2Go_of (g1 := g1) (g2 := g2) (own := own) (vs1 := vs1) (env := env) (it2 := it2) (cond := cond) (elt := elt) u v f p ys (xs := xs) fun y hy => h y (List.mem_cons_of_mem _ hy)
    rw [List.map_cons]
    unfold comp2Go
    rw [h1]
    dsimp only
    rw [h2]
    dsimp only
    rw [if_pos (by rw [List.length_map]; exact h3), compGo_ofp v (f x) (p x) h4]
    dsimp only
    rw [ih]
    rfl
theorem cmp2K_f {n : Nat} {st : Sto} {ys : List T} (h : n ≤ 4000) : cmp2K n (.ok ys st) = .ok (.lst ys) st := if_pos h
end Mu
namespace Mu
open PySem
theorem exFor_atC {g : G} {body : Env → Sto → RS} (C : RS → Prop) (I : Nat → Env → Sto → Prop) {ts : List T} {env : Env} {st : Sto} (i0 : I 0 env st)
    (h : ∀ i t, ts[i]? = some t → ∀ env st, I i env st → ∃ e, bindG g t env = some e ∧ ∃ env' st', body e st = .nx env' st' ∧ I (i + 1) env' st')
    (hc : ∀ env' st', I ts.length env' st' → C (.nx env' st')) : C (exFor g body ts env st) := by
  obtain ⟨env', st', e, i'⟩ := exFor_at (g := g) (body := body) I (ts := ts) 0 i0 (by simpa using h)
  rw [e]
  exact hc env' st' (by simpa using i')
theorem enum_at : ∀ {ts : List T} {k i : Nat} {t : T}, (enumT k ts)[i]? = some t → ∃ x, ts[i]? = some x ∧ t = .tup [.int ((k + i : Nat) : Int), x]
  | [], k, i, t, h => by simp [enumT] at h
  | x :: xs, k, 0, t, h => ⟨x, rfl, by simpa [enumT] using h.symm⟩
  | x :: xs, k, i + 1, t, h => by
    obtain ⟨y, h1, h2⟩ := enum_at (ts := xs) (k := k + 1) (i := i) (by simpa [enumT] using h)
    exact ⟨y, by simpa using h1, by rw [h2, show k + 1 + i = k + (i + 1) by omega]⟩
theorem cut_take {α : Type} {xs : List α} {i : Nat} (h : i ≤ xs.length) : cutT xs none (some (i : Int)) = xs.take i := by
  simp [cutT, sIx, Nat.min_eq_left h]
theorem XZ (st : Sto) : (∀ ts lo hi, slT st (.tup ts) lo hi = some (.tup (cutT ts lo hi))) ∧ (∀ ns lo hi, slT st (.scr ns) lo hi = some (.lst ((cutT ns lo hi).map .int))) ∧ (∀ ts lo hi, slT st (.lst ts) lo hi = some (.lst (cutT ts lo hi))) ∧ (∀ i, KevO (.int i) st = .ok (some i) st) := ⟨fun _ _ _ => rfl, fun _ _ _ => rfl, fun _ _ _ => rfl, fun _ => rfl⟩
end Mu
namespace Mu
open PySem
theorem tup_cell {pg : Pg} {st : Sto} {n : Nat} {ts : List T} (h : cellO st n = some (.lst ts)) : blT pg st .tuple [.cell n] = some (.tup ts) := by
  show (lst1 st [.cell n]).map T.tup = _
  simp [lst1, lstOf, h]
theorem nodup_le {α : Type} [BEq α] [LawfulBEq α] : ∀ {l ms : List α}, l.Nodup → (∀ x ∈ l, x ∈ ms) → l.length ≤ ms.length
  | [], _, _, _ =>
          Nat.zero_le _
  | x :: l, ms, hd, h => by
    have hx := h x List.mem_cons_self
    obtain ⟨hd1, hd2⟩ := List.nodup_cons.mp hd
    have := nodup_le (ms := ms.erase x) hd2 fun y hy => (List.mem_erase_of_ne (fun (e : y = x) => hd1 (by rw [← e]; exact hy))).mpr (h y (List.mem_cons_of_mem _ hy))
    rw [List.length_erase_of_mem hx] at this
    have := List.length_pos_of_mem hx
    rw [List.length_cons]
    omega
end Mu
namespace Mu
open PySem
theorem exFor_at0 {g : G} {body : Env → Sto → RS} (I : Nat → Env → Sto → Prop) {ts : List T} {env : Env} {st : Sto} (i0 : I 0 env st)
    (h : ∀ i t, ts[i]? = some t → ∀ env st, I i env st → ∃ e, bindG g t env = some e ∧ ∃ env' st', body e st = .nx env' st' ∧ I (i + 1) env' st') :
    ∃ env' st', exFor g body ts env st = .nx env' st' ∧ I ts.length env' st' := by
  obtain ⟨env', st', e, i'⟩ := exFor_at (g := g) (body := body) I (ts := ts) 0 i0 (by simpa using h)
  exact ⟨env', st', e, by simpa using i'⟩
end Mu
namespace Mu
open PySem
theorem cut_drop {α : Type} {xs : List α} {i : Nat} (h : i ≤ xs.length) : cutT xs (some (i : Int)) none = xs.drop i := by
  simp only [cutT, sIx, Option.elim, Int.natCast_nonneg, if_true, Int.toNat_natCast, Nat.min_eq_left h]
  exact List.take_of_length_le (by rw [List.length_drop]; exact Nat.le_refl _)
end Mu
namespace Mu
theorem XIN : isN .non = true ∧ (∀ i, isN (.int i) = false) ∧ (∀ x, isN (.str x) = false) ∧ (∀ x, isN (.tup x) = false) ∧ (∀ x, isN (.lst x) = false) ∧ (∀ x, isN (.bl x) = false) := ⟨rfl, fun _ => rfl, fun _ => rfl, fun _ => rfl, fun _ => rfl, fun _ => rfl⟩
end Mu
namespace Mu
open PySem
theorem b_mull {a : List T} {k : Int} (h : -(2 ^ 63) ≤ k ∧ k < 2 ^ 63 ∧ a.length * k.toNat ≤ big) : binV .Mult (.lst a) (.int k) = some (.lst (replL k.toNat a)) := if_pos h
/-- a walk that keeps some of what it walks over, by tests that change the store -/
theorem compGo_sub {α : Type} {g : G} {own : List Nat} {env : Env} {cond : Env → Sto → R Bool} {elt : Env → Sto → R T} (I : Sto → Prop) (u f : α → T) : ∀ {xs : List α} {st : Sto}, I st → (∀ x ∈ xs, ∀ st, I st → ∃ e, bindG g (u x) (wipeE env own) = some e ∧ ∃ b st1, cond e st = .ok b st1 ∧ I st1 ∧ elt e st1 = .ok (f x) st1) →
    ∃ (ys : List α) (st' : Sto), compGo g own env cond elt (xs.map u) st = .ok (ys.map f) st' ∧ ys.Sublist xs ∧ I st'
  | [], st, i, _ => ⟨[], st, rfl, .slnil, i⟩
  | x :: xs, st, i, h => by
    obtain ⟨e, h1, b, st1, h2, i1, h3⟩ := h x List.mem_cons_self st i
    obtain ⟨ys, st2, h4, h5, i2⟩ := compGo_sub (g := g) (own := own) (env := env) (cond := cond) (elt := elt) I u f (xs := xs) i1 fun y hy => h y (List.mem_cons_of_mem _ hy)
    cases b with
    | true =>
      refine ⟨x :: ys, st2, ?_, h5.cons_cons x, i2⟩
      rw [List.map_cons]
      unfold compGo
      rw [h1]
      dsimp only
      rw [h2]
      dsimp only
      rw [h3]
      dsimp only
      rw [h4]
      rfl
    | false =>
      refine ⟨ys, st2, ?_, h5.cons x, i2⟩
      rw [List.map_cons]
      unfold compGo
      rw [h1]
      dsimp only
      rw [h2]
      exact h4
end Mu
namespace Mu
theorem XN2 : (∀ (a b c d e f g h i j k : Option T) (l : Env) (t : T) (st : Sto), setS 10 t (a :: b :: c :: d :: e :: f :: g :: h :: i :: j :: k :: l) st = .nx (a :: b :: c :: d :: e :: f :: g :: h :: i :: j :: some t :: l) st) ∧
    (∀ (a b c d e f g h i j k m : Option T) (l : Env) (t : T) (st : Sto), setS 11 t (a :: b :: c :: d :: e :: f :: g :: h :: i :: j :: k :: m :: l) st = .nx (a :: b :: c :: d :: e :: f :: g :: h :: i :: j :: k :: some t :: l) st) ∧
    (∀ (a b c d e f g h i j k m n : Option T) (l : Env) (t : T) (st : Sto), setS 12 t (a :: b :: c :: d :: e :: f :: g :: h :: i :: j :: k :: m :: n :: l) st = .nx (a :: b :: c :: d :: e :: f :: g :: h :: i :: j :: k :: m :: some t :: l) st) := by
  refine ⟨?_, ?_, ?_⟩ <;> intros <;> simp [setS]
end Mu
end
section
set_option Elab.async false
set_option linter.all false
set_option maxRecDepth 100000
set_option maxHeartbeats 400001
/-! Mu, part E: the end of a law in which lambdas are made: the tables of their code objects grow, all else stays. -/
namespace Mu
open PySem
open PySem.Spec
open PyProof.Rows
open L2
/-- in H stand the script, or nothing, and the empty tables -/
structure LoneT (P : Program) (w : World) (K : PySem.W.Frag) (s₁ : Shared) (a : Addr) (cs : List (Addr × Addr)) (H : Hp) : Prop where
  kinds : ∀ b, H b = none ∨ (∃ p ∈ cs, b = p.2) ∨ ∃ o xs, H b = some (.frz o (.lst xs))
  ok : HOk P w H s₁.heap
  at_ : ∀ b, H b ≠ none → b = a ∨ ∃ p ∈ cs, b = p.2
  out : H a ≠ none → K.lookup a = none
  tab : ∀ p ∈ cs, H p.2 = some (.tbl #[])
/-- what is known of the heap at the law's call -/
structure TabsIn (K : PySem.W.Frag) (mg : Str → Option Value) (s₁ : Shared) (cs : List (Addr × Addr)) : Prop where
  tab : ∀ p ∈ cs, s₁.heap.get? p.2 = some { cls := .none, data := .fields #[] }
  out : ∀ p ∈ cs, K.lookup p.2 = none
  code : ∀ p ∈ cs, PySem.W.CodeHd s₁.heap p.1 p.2
  bm : ∃ (bm : Addr) (ob : Obj), mg "__builtins__" = some (.ref bm) ∧ bm ≠ builtinsNs ∧ s₁.heap.get? bm = some ob ∧ ob.cls = .type "module" ∧ ob.dict = some builtinsNs ∧ ob.data = .plain
section
variable {P : Program} {w : World} {K : PySem.W.Frag} {mg mb : Str → Option Value} {k : Nat} {fd : FuncData} {sp : Sp} {s₁ : Shared} {a fa : Addr} {vs : List Value} {x : Str} {cs : List (Addr × Addr)} {H : Hp}
/-- what is neither a list nor an empty table isn't tracked -/
theorem LoneT.free (L : LoneT P w K s₁ a cs H) (T : TabsIn K mg s₁ cs) (ha : s₁.heap.get? a = some { cls := .type "list", data := .seq vs.toArray }) {b : Addr} {o : Obj} (h : s₁.heap.get? b = some o) (h1 : ∀ us n, o.data ≠ .seq us n) (h2 : o.data ≠ .fields #[]) : H b = none := by
  refine Classical.byContradiction fun z => ?_
  rcases L.at_ b z with e | ⟨p, hp, e⟩
  · rw [e, ha] at h
    rw [← Option.some.inj h] at h1
    exact h1 _ _ rfl
  · rw [e, T.tab p hp] at h
    rw [← Option.some.inj h] at h2
    exact h2 rfl
theorem law_loneT (L : LoneT P w K s₁ a cs H) (T : TabsIn K mg s₁ cs) (inK : K.In s₁.heap) (ns₁ : s₁.heap.Ns mainGlobals mg) (nb : s₁.heap.Ns builtinsNs mb) (hbb : ∀ x : Str, x ≠ "__name__" → mb x = bootBuiltins x) (lim : s₁.heap.NoLimit) (hg : s₁.gens = #[])
    (ha : s₁.heap.get? a = some { cls := .type "list", data := .seq vs.toArray }) (hr : Room k callerA) (F : ∀ base : Heap, K.In base → base.Ns mainGlobals mg → (∀ p ∈ cs, LamX.TabB base mg p.1 p.2) → FnG P w K mg base k fa fd [x] sp)
    (hb : ∀ (s : Shared) (u : Value), BindsTo s fd ⟨[u], []⟩ [(x, u)]) (hsp : sp [.ref a] H (fun v _ => v = .bl true) fun _ _ _ => False) : codeAny (model P w) callerA (.call (.ref fa) ⟨[.ref a], []⟩) (LawEnd s₁) s₁ := by
  have keep : ∀ {b : Addr} {o : Obj}, s₁.heap.get? b = some o → (∀ us n, o.data ≠ .seq us n) → o.data ≠ .fields #[] → (hidT s₁.heap H).get? b = some o := fun h h1 h2 => hidT_get h (L.free T ha h h1 h2)
  have names : ∀ {b : Addr} {m : Str → Option Value}, s₁.heap.Ns b m → (hidT s₁.heap H).Ns b m := by
    rintro b m ⟨o, es, ep, h, d, r⟩
    exact ⟨o, es, ep, keep h (fun us n z => by rw [d] at z; cases z) (fun z => by rw [d] at z; cases z), d, r⟩
  have inB : K.In (hidT s₁.heap H) := by
    intro b o h
    refine hidT_get (inK b o h) (Classical.byContradiction fun z => ?_)
    rcases L.at_ b z with e | ⟨p, hp, e⟩
    · subst e
      rw [L.out z] at h
      cases h
    · rw [e, T.out p hp] at h
      cases h
  obtain ⟨mc, c1, c2⟩ := lim
  have M : Mod K mg (hidT s₁.heap H) := ⟨inB, names ns₁, ⟨mb, names nb, hbb⟩, mc, names c1, c2⟩
  have noG : ∀ {b : Addr} {o : Obj}, s₁.heap.get? b = some o → (∀ es ep, o.data ≠ .dict es ep) → b ≠ mainGlobals := fun {b o} h hd z => by
    obtain ⟨og, es, ep, e, d, _⟩ := ns₁
    rw [z, e] at h
    rw [← Option.some.inj h] at hd
    exact hd _ _ d
  have TB : ∀ p ∈ cs, LamX.TabB (hidT s₁.heap H) mg p.1 p.2 := fun p hp => by
    have hT := T.tab p hp
    refine ⟨?_, ?_, (noG hT (fun es ep z => by cases z)).symm⟩
    · obtain ⟨o, us, file, tf, flags, tg, inF, text, tt, e1, r1, r2, r3, rest⟩ := T.code p hp
      refine ⟨o, us, file, tf, flags, tg, inF, text, tt, keep e1 (fun us' n z => by rw [r2] at z; cases z) (fun z => ?_), r1, r2, r3, rest⟩
      rw [r2] at z
      injection z with z
      rw [z] at r3
      simp at r3
    · obtain ⟨bm, ob, b1, b2, b3, b4, b5, b6⟩ := T.bm
      refine ⟨bm, ob, b1, b2, noG b3 (fun es ep z => by rw [b6] at z; cases z), fun z => ?_, keep b3 (fun us n z => by rw [b6] at z; cases z) (fun z => by rw [b6] at z; cases z), b4, b5, b6⟩
      rw [z, hT] at b3
      rw [← Option.some.inj b3] at b6
      cases b6
  have E0 : Env0 P w K mg (hidT s₁.heap H) callerA [] s₁ H := ⟨rfl, M, fun b o h => of_hidT h, Nat.le_of_eq (hidT_size _ _), trivial, (fun b h => by cases (show b ∈ ([] : List Addr) from h)), L.ok, .of_eq hg⟩
  refine codeAny_mono ((F _ inB (names ns₁) TB).run callerA [] s₁ H ⟨[.ref a], []⟩ [.ref a] [.ref a] _ _ hr rfl E0 (hb s₁ (.ref a)) (.cons rfl .nil) hsp) ?_
  intro r s' q
  cases r with
  | error e =>
    obtain ⟨_, _, _, _, _, _, _, _, _, _, _, _, z⟩ := q
    exact z.elim
  | ok fl =>
    cases fl with
    | next => exact q.elim
    | brk => exact q.elim
    | cont => exact q.elim
    | ret u =>
      obtain ⟨v, H', os, bare, un, ok', rel, rfl⟩ := q
      have grown : ∀ p ∈ cs, ∃ more : Array Value,
              s'.heap.get? p.2 = some { cls := .none, data := .fields more } := fun p hp => by
        obtain ⟨more, z⟩ := un.tbls p.2 #[] (L.tab p hp)
        exact ⟨_, ok' p.2 _ z⟩
      have stays : ∀ b o, (¬ ∃ p ∈ cs, b = p.2) → s₁.heap.get? b = some o → s'.heap.get? b = some o := fun b o nb h => by
        rcases L.kinds b with z | z | ⟨ob, xs, z⟩
        · exact un.keep b o h z (fun m => by cases (show b ∈ ([] : List Addr) from m)) (fun m => by cases (show b ∈ ([] : List Addr) from m))
        · exact (nb z).elim
        · have h1 := (L.ok b _ z).1
          have h2 := (ok' b _ (un.frzs b ob _ z)).1
          rw [h] at h1
          rw [Option.some.inj h1]
          exact h2
      refine ⟨congrArg (fun z => Except.ok (Flow.ret z)) rel, ⟨fun b o h => ?_, fun b o h => ?_⟩, os, bare⟩
      · by_cases hm : ∃ p ∈ cs, b = p.2
        · obtain ⟨p, hp, e⟩ := hm
          subst e
          obtain ⟨more, q⟩ := grown p hp
          have e := T.tab p hp
          rw [h] at e
          rw [Option.some.inj e]
          exact .inr (.inl ⟨((T.code p hp).tab (T.tab p hp)).isCodeTable, rfl, #[], more, rfl, by rw [Array.empty_append]; exact q⟩)
        · exact .inl (stays b o hm h)
      · by_cases hm : ∃ p ∈ cs, b = p.2
        · obtain ⟨p, hp, e⟩ := hm
          subst e
          obtain ⟨more, q⟩ := grown p hp
          exact ⟨_, q⟩
        · exact ⟨o, stays b o hm h⟩
theorem law_callTG {ns : List Int} (T : TabsIn K mg s₁ cs) (inK : K.In s₁.heap) (ns₁ : s₁.heap.Ns mainGlobals mg) (nb : s₁.heap.Ns builtinsNs mb) (hbb : ∀ x : Str, x ≠ "__name__" → mb x = bootBuiltins x) (lim : s₁.heap.NoLimit) (hg : s₁.gens = #[])
    (ha : s₁.heap.get? a = some { cls := .type "list", data := .seq vs.toArray }) (hi : IntsAre vs ns) (hl : ns.length ≤ sizeLine) (hr : Room k callerA) (F : ∀ base : Heap, K.In base → base.Ns mainGlobals mg → (∀ p ∈ cs, LamX.TabB base mg p.1 p.2) → FnG P w K mg base k fa fd [x] sp)
    (hb : ∀ (s : Shared) (u : Value), BindsTo s fd ⟨[u], []⟩ [(x, u)]) (hsp : ∀ H : Hp, (∀ p ∈ cs, H p.2 = some (.tbl #[])) → SqL K H a (ns.map V.int) → sp [.ref a] H (fun v _ => v = .bl true) fun _ _ _ => False) : codeAny (model P w) callerA (.call (.ref fa) ⟨[.ref a], []⟩) (LawEnd s₁) s₁ := by
  have rv := vals_ints hi
  have len := hi.length
  have aT : ¬ ∃ p ∈ cs, a = p.2 := fun ⟨p, hp, e⟩ => by
    have q := T.tab p hp
    rw [← e, ha] at q
    cases congrArg Obj.data (Option.some.inj q)
  cases own : K.lookup a with
  | some o =>
    have e := inK a o own
    rw [ha] at e
    have e := Option.some.inj e
    subst e
    have D := Classical.propDecidable
    let H : Hp := fun b => if ∃ p ∈ cs, b = p.2 then some (.tbl #[]) else none
    have yes : ∀ {b}, (∃ p ∈ cs, b = p.2) → H b = some (.tbl #[]) := fun h => if_pos h
    have no : ∀ {b}, (¬ ∃ p ∈ cs, b = p.2) → H b = none := fun h => if_neg h
    have L : LoneT P w K s₁ a cs H := by
      refine ⟨fun b => ?_, fun b u z => ?_, fun b z => ?_, fun z => (z (no aT)).elim, fun p hp => yes ⟨p, hp, rfl⟩⟩
      · by_cases e : ∃ p ∈ cs, b = p.2
        · exact .inr (.inl e)
        · exact .inl (no e)
      · by_cases e : ∃ p ∈ cs, b = p.2
        · rw [yes e] at z
          cases z
          obtain ⟨p, hp, e⟩ := e
          rw [e]
          exact T.tab p hp
        · rw [no e] at z
          cases z
      · exact .inr (Classical.byContradiction fun e => z (no e))
    exact law_loneT L T inK ns₁ nb hbb lim hg ha hr F hb (hsp _ L.tab (.inr ⟨_, vs.toArray, _, own, rfl, rfl, rfl, (by rw [List.size_toArray, len]; exact hl), by simpa using rv⟩))
  | none =>
    let ob : Obj := { cls := .type "list", data := .seq vs.toArray }
    have D := Classical.propDecidable
    let H : Hp := fun b => if b = a then some (.frz ob (.lst (ns.map V.int))) else if ∃ p ∈ cs, b = p.2 then some (.tbl #[]) else none
    have yes : H a = some (.frz ob (.lst (ns.map V.int))) := if_pos rfl
    have tab : ∀ {b}, (∃ p ∈ cs, b = p.2) → H b = some (.tbl #[]) := fun {b} h => (if_neg (fun e : b = a => aT (e ▸ h))).trans (if_pos h)
    have no : ∀ {b}, b ≠ a → (¬ ∃ p ∈ cs, b = p.2) → H b = none := fun h1 h2 => (if_neg h1).trans (if_neg h2)
    have L : LoneT P w K s₁ a cs H := by
      refine ⟨fun b => ?_, fun b u z => ?_, fun b z => ?_, fun _ => own, fun p hp => tab ⟨p, hp, rfl⟩⟩
      · by_cases e : b = a
        · rw [e]; exact .inr (.inr ⟨_, _, yes⟩)
        · by_cases e2 : ∃ p ∈ cs, b = p.2
          · exact .inr (.inl e2)
          · exact .inl (no e e2)
      · by_cases e : b = a
        · rw [e] at z ⊢
          rw [yes] at z
          cases z
          exact ⟨ha, (by show (ns.map V.int).length ≤ sizeLine; rw [List.length_map]; exact hl), vs, _, rv, ha⟩
        · by_cases e2 : ∃ p ∈ cs, b = p.2
          · rw [tab e2] at z
            cases z
            obtain ⟨p, hp, e3⟩ := e2
            rw [e3]
            exact T.tab p hp
          · rw [no e e2] at z
            cases z
      · by_cases e : b = a
        · exact .inl e
        · exact .inr (Classical.byContradiction fun e2 => z (no e e2))
    exact law_loneT L T inK ns₁ nb hbb lim hg ha hr F hb (hsp _ L.tab (.inl (.inr ⟨ob, yes⟩)))
/-- the end over a head by facts and tables -/
theorem walkGT {l : PySem.W.OpenLaw} {n k : Nat} {q : Program} {loose : List Str} {XP : (Str → Option Value) → Heap → Prop} {YP : World → Heap → Prop} {d : DefRec} {x : Str} (hn : l.most = some n) (hn2 : n ≤ sizeLine) (hdf : d.params.defaults = []) (hr : Room k callerA)
    (F : ∀ (w : World) (mg : Str → Option Value) (fa : Addr) (h : Heap),
            YP w h → h.Ns mainGlobals mg → mg d.name = some (.ref fa) →
      ∃ (K : PySem.W.Frag) (fd : FuncData) (sp : Sp) (cs : List (Addr × Addr)), K.In h ∧ (∀ p ∈ cs, h.get? p.2 = some { cls := .none, data := .fields #[] }) ∧ (∀ p ∈ cs, K.lookup p.2 = none) ∧ (∀ p ∈ cs, PySem.W.CodeHd h p.1 p.2) ∧ (∀ (s : Shared) (u : Value), BindsTo s fd ⟨[u], []⟩ [(x, u)]) ∧
        (∀ (H : Hp) (a : Addr) (ns : List Int), ns.length ≤ n → (∀ p ∈ cs, H p.2 = some (.tbl #[])) → SqL K H a (ns.map V.int) → sp [.ref a] H (fun v _ => v = .bl true) fun _ _ _ => False) ∧
        ∀ base : Heap, K.In base → base.Ns mainGlobals mg → (∀ p ∈ cs, LamX.TabB base mg p.1 p.2) → FnG l.prog w K mg base k fa fd [x] sp) :
    PySem.W.WalkO q loose XP YP l.row.toRowW d [] (fun f vs =>
            PySem.call f vs) := by
  apply Att.attach_call hn hdf
  intro w s₀ s₁ mg mb fa o pm cd doc a vs ns G Y ho hd hcd hmg hobj hints hlen hg
  obtain ⟨K, fd, sp, cs, inK, t1, t2, t3, hb, hsp, hF⟩ := F w mg fa _ Y G.T.g hmg
  exact law_callTG ⟨t1, t2, t3, G.T.bmain⟩ inK G.T.g G.T.b G.T.builtins G.T.nolimit hg hobj hints (Nat.le_trans hlen hn2) hr hF hb fun H hO hS => hsp H a ns hlen hO hS
end
end Mu
end
section
set_option Elab.async false
set_option linter.all false
set_option maxRecDepth 100000
set_option maxHeartbeats 400001
/-! Mu, part H: from what the head's look tells to what the layer asks of the module. -/
namespace Mu
open PySem
open PySem.Spec
open PyProof.Rows
open L2
/-! ### the look -/
abbrev AlM : Type := He.AlD × Bool
def obsM (n : Nat) (fa : List He.Fa) (fn : List He.DefD) (ex : PySem.W.Frag → Bool) (g : Addr → Option Obj) : AlM := (He.obsDG n fa fn g, ex (He.frG g (He.asD g n)))
def hookM (n : Nat) (fa : List He.Fa) (fn : List He.DefD) (ex : PySem.W.Frag → Bool) : PySem.W.Hook where
  α := AlM
  obs := fun s => obsM n fa fn ex s.heap.get?
  val := fun _ => (He.valD fn, true)
  says := fun _ h => ∃ K : PySem.W.Frag, K.In h ∧ He.SaysD fa fn K ∧ ex K = true
  of := fun _ _ e => ⟨_, He.frG_in, congrArg (fun z : AlM => z.1) e, congrArg (fun z : AlM => z.2) e⟩
  keeps := fun _ _ _ ⟨K, hK, c⟩ k =>
          ⟨K, PySem.W.Frag.In.keeps hK k, c⟩
theorem obsM_eq {n : Nat} {fa : List He.Fa} {fn : List He.DefD} {ex : PySem.W.Frag → Bool} {g : Addr → Option Obj} {s : Shared} (h : ∀ a, g a = s.heap.get? a) : obsM n fa fn ex g = (hookM n fa fn ex).obs s := by
  have e : g =
          s.heap.get? := funext h
  rw [e] <;> rfl
theorem facts_of {fa : List He.Fa} {fn : List He.DefD} {K : PySem.W.Frag} (c : He.SaysD fa fn K) {f : He.Fa} (h : f ∈ fa) : f.ok K = true := by
  obtain ⟨i, hi,
          e⟩ := List.mem_iff_getElem.mp h
  exact c.fact i (f := f) (by
          rw [List.getElem?_eq_getElem hi, e])
/-- a method's statement -/
def inCls (s : Stmt) (j : Nat) : Stmt := match s with
  | .ClassDef _ _ _ b _ _ _ _ _ _ _ => b.getD j (.Pass ⟨0, 0, 0, 0⟩)
  | s => s
/-! ### defs -/
section
variable {tb : Tab} {D : Nat → Option Df} {K : PySem.W.Frag} {f : Nat} {a : Addr} {fd : FuncData} {x qual : Str} {st : Stmt} {N ps ks : List Str} {df : Df} {pm : List Nat}
/-- no defaults: as the layer's def -/
theorem fun_of (F : FunD K x qual (defArgs st) (defBody st) (defScope st) [] [] a fd) : Fun K x qual st a fd := by
  obtain ⟨oc, od, dV, kV, doc, pm, an, cdv, ct, osl, e, l, c, h, _⟩ := F.ex
  rcases h with ⟨_, h⟩ | ⟨h, _⟩
  · subst h
    exact ⟨⟨oc, od, kV, doc, pm, an,
            cdv, ct, osl, e, l, c⟩, F.kp⟩
  · exact absurd rfl h
/-- the tables that the law's lambdas use: a lambda's full name by its number, the def that makes it -/
def csOf (K : PySem.W.Frag) (l : List (Nat × He.Defn)) (q : Nat) : Option (Addr × Addr) := (l.lookup q).map (He.cT K)
theorem code_of {p : He.Defn} (F : FunD K x qual (defArgs st) (defBody st) (defScope st) [] [] (He.fAd K p) fd) : fd.code = .ref (He.codeOf K p) := by
  obtain ⟨oc, od, dV, kV, doc, pm, an, cdv, ct, osl, e, l, c, h, _⟩ := F.ex
  obtain ⟨c', e2⟩ := He.codeIn_ref c
  subst e
  have := He.codeOf_eq (c := c') l e2
  rw [this]
  exact e2
theorem nat_mem {α : Type} {q : Nat} {p : α} : ∀ {l : List (Nat × α)}, l.lookup q = some p → (q, p) ∈ l
  | [], h => by cases h
  | (r, o) :: l, h => by
    rw [List.lookup_cons] at h
    cases e : (q == r) with
    | true =>
      rw [e] at h
      rw [beq_iff_eq.mp e, Option.some.inj h]
      exact List.mem_cons_self
    | false =>
      rw [e] at h
      exact List.mem_cons_of_mem _ (nat_mem h)
theorem isLam {l : List (Nat × He.Defn)} {at_ : He.Defn} (F : FunD K x qual (defArgs st) (defBody st) (defScope st) [] [] (He.fAd K at_) fd) (h : (l.all fun p => !decide (tb.name p.1 ∈ N) || (decide (p.2 = at_) && decide ((qual ++ ".<locals>.") ++ ("<lambda>" : Str) = tb.name p.1))) = true) :
    ∀ q c P, csOf K l q = some (c, P) → tb.name q ∈ N → (qual ++ ".<locals>.") ++ ("<lambda>" : Str) = tb.name q ∧ fd.code = .ref c := fun q c P e hN => by
  unfold csOf at e
  cases hq : l.lookup q with
  | none => rw [hq] at e; cases e
  | some p =>
    rw [hq] at e
    have e : He.cT K p = (c, P) := Option.some.inj e
    have r := List.all_eq_true.mp h (q, p) (nat_mem hq)
    rw [Bool.or_eq_true, Bool.and_eq_true, decide_eq_true_eq, decide_eq_true_eq, Bool.not_eq_true', decide_eq_false_iff_not] at r
    rcases r with r | ⟨r1, r2⟩
    · exact absurd hN r
    · subst r1
      refine ⟨r2, ?_⟩
      rw [code_of F]
      injection e with e1 e2
      rw [e1]
theorem dok_of {w : Wd} (F : FunD w.K x qual (defArgs st) (defBody st) (defScope st) [] [] a fd) (hD : D f = some df) (S : FnScope N ps (defScope st)) (hn : N.length = df.nl) (hp : ps.length = df.np) (hc : chSs tb N (defScope st) df.body (defBody st) = true)
    (hb : ∀ (kV doc pm : Value) (an : Option Addr) (cdv ct : Value) (us : List Value), us.length = ps.length → bindArgs (PySem.W.fnOf x qual (defArgs st) (defBody st) (defScope st) .none kV doc pm an cdv ct) ⟨us, []⟩ = pure (ps.zip us))
    (hl : ∀ q c P, w.cs q = some (c, P) → tb.name q ∈ N → (qual ++ ".<locals>.") ++ ("<lambda>" : Str) = tb.name q ∧ fd.code = .ref c) : DOk tb D w f a fd ps :=
  ⟨⟨x, qual, st, N, df, hD, fun_of F, S, hn, hp, hc, hl⟩, F.bindsN hb⟩
theorem nat_look {α : Type} {q : Nat} : ∀ {l : List (Nat × α)}, q ∈ l.map (·.1) → ∃ p, l.lookup q = some p
  | [], h => by cases h
  | (r, o) :: l, h => by
    rw [List.lookup_cons]
    cases e : (q == r) with
    | true => exact ⟨o, rfl⟩
    | false =>
      rcases List.mem_cons.mp h with k | k
      · rw [k] at e
        simp at e
      · exact nat_look (l := l) k
theorem csH {l : List (Nat × He.Defn)} {H : Hp} (h : ∀ p ∈ (l.map (·.2)).map (He.cT K), H p.2 = some (.tbl #[])) : ∀ q ∈ l.map (·.1), ∃ c P, csOf K l q = some (c, P) ∧ H P = some (.tbl #[]) := fun q hq => by
  obtain ⟨p, e⟩ := nat_look hq
  refine ⟨(He.cT K p).1, (He.cT K p).2, ?_, h _ (List.mem_map_of_mem (List.mem_map_of_mem (nat_mem e)))⟩
  unfold csOf
  rw [e]
  rfl
theorem csB {l : List (Nat × He.Defn)} {base : Heap} {mg : Str → Option Value} (h : ∀ p ∈ (l.map (·.2)).map (He.cT K), LamX.TabB base mg p.1 p.2) : ∀ q c P, csOf K l q = some (c, P) → LamX.TabB base mg c P := fun q c P e => by
  unfold csOf at e
  cases hq : l.lookup q with
  | none => rw [hq] at e; cases e
  | some p =>
    rw [hq] at e
    have e : He.cT K p = (c, P) := Option.some.inj e
    have r := h _ (List.mem_map_of_mem (List.mem_map_of_mem (nat_mem hq)))
    rw [e] at r
    exact r
/-- from the look's tables to the end's -/
theorem tabs_of {tf : List He.Defn} {h : Heap} (X : K.In h) (c1 : ∀ p ∈ tf, PySem.W.codeHdIn K (He.cT K p).1 (He.cT K p).2 = true) (c2 : ∀ p ∈ tf, K.lookup (He.cT K p).2 = none) (c3 : ∀ p ∈ tf, h.get? (He.cT K p).2 = some { cls := .none, data := .fields #[] }) :
    (∀ p ∈ tf.map (He.cT K), h.get? p.2 = some { cls := .none, data := .fields #[] }) ∧ (∀ p ∈ tf.map (He.cT K), K.lookup p.2 = none) ∧ (∀ p ∈ tf.map (He.cT K), PySem.W.CodeHd h p.1 p.2) := by
  refine ⟨fun p hp => ?_, fun p hp => ?_, fun p hp => ?_⟩
  · obtain ⟨d, hd, rfl⟩ := List.mem_map.mp hp
    exact c3 d hd
  · obtain ⟨d, hd, rfl⟩ := List.mem_map.mp hp
    exact c2 d hd
  · obtain ⟨d, hd, rfl⟩ := List.mem_map.mp hp
    exact PySem.W.codeHd_of_K X (c1 d hd)
theorem kb_of (F : FunD K x qual (defArgs st) (defBody st) (defScope st) [] [] a fd)
    (hb : ∀ (kV doc pm' : Value) (an : Option Addr) (cdv ct : Value) (ws : List Value), ws.length = ks.length → bindArgs (PySem.W.fnOf x qual (defArgs st) (defBody st) (defScope st) .none kV doc pm' an cdv ct) ⟨[], ks.zip ws⟩ = pure (ps.zip (pm.map fun i => ws.getD i .none))) : KB K fd ps ks pm := by
  obtain ⟨oc, od, dV, kV, doc, pm', an, cdv, ct, osl, rfl, l, c, h, _⟩ := F.ex
  rcases h with ⟨_, h⟩ | ⟨h, _⟩
  · subst h
    exact fun s ws _ hl => .of_eq (hb kV doc pm' an cdv ct ws hl)
  · exact absurd rfl h
end
section
variable {K : PySem.W.Frag} {a : Addr} {fd : FuncData} {x qual : Str} {st : Stmt} {ps ks : List Str} {pm : List Nat}
theorem kbm_of (F : FunD K x qual (defArgs st) (defBody st) (defScope st) [] [] a fd)
    (hb : ∀ (kV doc pm' : Value) (an : Option Addr) (cdv ct u : Value) (ws : List Value), ws.length = ks.length → bindArgs (PySem.W.fnOf x qual (defArgs st) (defBody st) (defScope st) .none kV doc pm' an cdv ct) ⟨[u], ks.zip ws⟩ = pure (ps.zip (u :: pm.map fun i => ws.getD i .none))) : KBm K fd ps ks pm := by
  obtain ⟨oc, od, dV, kV, doc, pm', an, cdv, ct, osl, rfl, l, c, h, _⟩ := F.ex
  rcases h with ⟨_, h⟩ | ⟨h, _⟩
  · subst h
    exact fun s u ws _ hl => .of_eq (hb kV doc pm' an cdv ct u ws hl)
  · exact absurd rfl h
end
/-- something of each in a list, by its place -/
def AllI {α : Type} (P : Nat → α → Prop) : Nat → List α → Prop
  | _, [] => True
  | i, x :: xs => P i x ∧ AllI P (i + 1) xs
theorem AllI.get {α : Type} {P : Nat → α → Prop} : ∀ {xs : List α} {i j : Nat} {x : α}, AllI P i xs → xs[j]? = some x → P (i + j) x
  | [], _, _, _, _, h =>
          by simp at h
  | y :: ys, i, 0, x, q, h => by
    simp at h
    subst h
    exact q.1
  | y :: ys, i, j + 1, x, q, h => by
    have r := AllI.get (i := i + 1) (j := j) q.2 (by simpa using h)
    rw [show i + 1 + j = i + (j + 1) by omega] at r
    exact r
theorem AllI.at0 {α : Type} {P : Nat → α → Prop} {xs : List α} {j : Nat} {x : α} (q : AllI P 0 xs) (h : xs[j]? = some x) : P j x := by
  have r := q.get h
  rwa [Nat.zero_add] at r
/-! ### isinstance's table, looked at -/
def kitB (w : Wd) (kit : List (Ck × Ck × Bool)) : Bool := kit.all fun p => decide (PySem.W.kitOne w.K (p.1.val w) (p.2.1.val w) = some p.2.2) && (match p.1 with
  | .ty _ => true
  | .cls c => decide (PySem.W.findIn w.K (.ref (w.ad c)) "__class__" = some (some (.builtin "object.__class__"))) && decide (PySem.W.specialIn w.K (.builtin "object.__class__") "__get__" = some (some (.builtin "getset_descriptor.__get__"))) &&
      decide (PySem.W.takesIn w.K (.builtin "object.__class__") = some true) && decide (PySem.W.mroIn w.K (w.ad c) (.type "object") = some true))
/-- classes with own special methods -/
def ownB (w : Wd) (l : List Nat) : Bool := l.all fun c => decide (PySem.W.findIn w.K (.ref (w.ad c)) "__bool__" = some none) && decide (PySem.W.findIn w.K (.ref (w.ad c)) "__ne__" = some (some (.builtin "object.__ne__"))) && decide (PySem.W.mroIn w.K (w.ad c) (.type "object") = some true)
theorem kit_of {w : Wd} {pg : Pg} (h : kitB w pg.kit = true) (ho : ownB w pg.own = true) (hc : ∀ c b r, (Ck.cls c, b, r) ∈ pg.kit → Cls w.K (w.ad c)) : KitOk w pg := by
  unfold kitB at h
  rw [List.all_eq_true] at h
  unfold ownB at ho
  rw [List.all_eq_true] at ho
  refine ⟨fun a b r m => ?_, fun c b r m => ?_, fun c hc' => by
    have q := ho c hc'
    simp only [Bool.and_eq_true,
            decide_eq_true_eq] at q
    exact ⟨q.1.1, q.1.2, q.2⟩⟩
  · have q := h _ m
    rw [Bool.and_eq_true] at q
    exact of_decide_eq_true q.1
  · have q := h _ m
    rw [Bool.and_eq_true] at q
    have q2 := q.2
    simp only [Bool.and_eq_true,
            decide_eq_true_eq] at q2
    exact ⟨hc c b r m, q2.1.1.1, q2.1.1.2, q2.1.2, q2.2⟩
/-- constants of the module -/
theorem gc_int {K : PySem.W.Frag} {h : Heap} {mg : Str → Option Value} {w : Wd} (X : K.In h) (G : h.Ns mainGlobals mg) {x : Str} {i : Int} (c : (He.Fa.int x i).ok K = true) : ∃ u v, mg x = some u ∧ L2.RelV v u ∧ ∀ as H, Rep w as H (.int i) v := by
  obtain ⟨t, e⟩ := He.int_ok X G c
  exact ⟨_, .int i, e, ⟨t, rfl⟩, fun _ _ => Rep.of_int i⟩
theorem gc_str {K : PySem.W.Frag} {h : Heap} {mg : Str → Option Value} {w : Wd} (X : K.In h) (G : h.Ns mainGlobals mg) {x z : Str} {cs : List Nat} (c : (He.Fa.str x z).ok K = true) (hz : z = ⟨cs.toArray⟩) : ∃ u v, mg x = some u ∧ L2.RelV v u ∧ ∀ as H, Rep w as H (.str cs) v := by
  obtain ⟨t, e⟩ := He.str_ok X G c
  subst hz
  exact ⟨_, .str ⟨cs.toArray⟩, e, ⟨t, rfl⟩, fun _ _ => Rep.of_str cs⟩
end Mu
end
section
set_option Elab.async false
set_option linter.all false
set_option maxRecDepth 100000
set_option maxHeartbeats 400001
namespace LW
open Mu PySem
/-! the text of the program and of the law, in the compact syntax (printed from the linked text) -/
abbrev n_every_row : Nat := 0
abbrev n_is_name : Nat := 1
abbrev n_is_integer : Nat := 2
abbrev n_is_share : Nat := 3
abbrev n_check_marks : Nat := 4
abbrev n_check_numbers : Nat := 5
abbrev n_shares_text : Nat := 6
abbrev n_like : Nat := 7
abbrev n_odd : Nat := 8
abbrev n_lamps : Nat := 9
abbrev n__law_bag : Nat := 10
abbrev n__law_draw : Nat := 11
abbrev n__law_one : Nat := 12
abbrev n__law_marks : Nat := 13
abbrev n__law_rows : Nat := 14
abbrev n__law_numbers : Nat := 15
abbrev n__law_shares : Nat := 16
abbrev n__law_made : Nat := 17
abbrev n__law_right : Nat := 18
abbrev n_law : Nat := 19
abbrev n_Shares___init__ : Nat := 20
abbrev n_Shares___len__ : Nat := 21
abbrev n_Shares___eq__ : Nat := 22
abbrev n_Shares___str__ : Nat := 23
abbrev n_Shares_text : Nat := 24
abbrev c_Shares : Nat := 0
abbrev f_marks : Nat := 0
abbrev f_numbers : Nat := 1
abbrev f_total : Nat := 2
abbrev f___eq__ : Nat := 3
abbrev f_text : Nat := 4
abbrev f___len__ : Nat := 5
def b_every_row_1 : Ss :=
  (.cons (.setC 1 (.comp2 (.bin .Add (.v 3) (.v 4)) (.nm 3) (.it (.v 1)) (.nm 4) (.it (.c (.str [48, 49]))) [3, 4] .nil))
  .nil)
def b_every_row : Ss :=
  (.cons (.set 1 (.lst false (.cons (.c (.str [])) .nil)))
  (.cons (.forr (.nm 2) (.rng1 (.v 0)) b_every_row_1)
  (.cons (.ret (.bl .tuple (.cons (.v 1) .nil)))
  .nil)))
def d_every_row : Df := ⟨1, 5, b_every_row, false⟩
def b_is_name : Ss :=
  (.cons (.ife (.or2 (.not1 (.tr (.bl .isi (.cons (.v 0) (.cons (.bty "str" "str") .nil))))) (.one (.not1 (.chn .LtE .LtE (.c (.int 1)) (.bl .len (.cons (.v 0) .nil)) (.gc "MOST_NAME" (.int 8)))))) (.cons (.ret (.c (.bl false)))
  .nil) .nil)
  (.cons (.ret (.bl .all (.cons (.comp false (.cmp .In (.v 1) (.gc "LETTERS" (.str [97, 98, 99, 100, 101, 102, 103, 104, 105, 106, 107, 108, 109, 110, 111, 112, 113, 114, 115, 116, 117, 118, 119, 120, 121, 122]))) (.nm 1) (.it (.v 0)) [1] .nil) .nil)))
  .nil))
def d_is_name : Df := ⟨1, 2, b_is_name, false⟩
def b_is_integer : Ss :=
  (.cons (.ret (.and2 (.bl .isi (.cons (.v 0) (.cons (.bty "int" "int") .nil))) (.one (.not1 (.bl .isi (.cons (.v 0) (.cons (.bty "bool" "bool") .nil)))))))
  .nil)
def d_is_integer : Df := ⟨1, 1, b_is_integer, false⟩
def b_is_share : Ss :=
  (.cons (.ret (.and2 (.cl n_is_integer (.cons (.v 0) .nil)) (.one (.chn .LtE .LtE (.c (.int 0)) (.v 0) (.gc "MOST_NUMBER" (.int 1000000000000))))))
  .nil)
def d_is_share : Df := ⟨1, 1, b_is_share, false⟩
def b_check_marks_1 : Ss :=
  (.cons (.ife (.or2 (.cmp .GtE (.v 1) (.gc "MOST_MARKS" (.int 4))) (.or2 (.not1 (.tr (.cl n_is_name (.cons (.v 2) .nil)))) (.one (.cmp .In (.v 2) (.sl (.v 0) .nil (.cons (.v 1) .nil)))))) (.cons .never
  .nil) .nil)
  .nil)
def b_check_marks : Ss :=
  (.cons (.ife (.or2 (.not1 (.tr (.bl .isi (.cons (.v 0) (.cons (.bty "tuple" "tuple") .nil))))) (.one (.cmp .Eq (.bl .len (.cons (.v 0) .nil)) (.c (.int 0))))) (.cons .never
  .nil) .nil)
  (.cons (.forr (.two (.nm 1) (.nm 2)) (.enum (.v 0)) b_check_marks_1)
  .nil))
def d_check_marks : Df := ⟨1, 3, b_check_marks, false⟩
def b_check_numbers_1 : Ss :=
  (.cons (.ife (.or2 (.cmp .GtE (.v 2) (.v 1)) (.one (.not1 (.tr (.cl n_is_share (.cons (.v 3) .nil)))))) (.cons .never
  .nil) .nil)
  .nil)
def b_check_numbers : Ss :=
  (.cons (.ife (.or2 (.not1 (.tr (.bl .isi (.cons (.v 0) (.cons (.bty "tuple" "tuple") .nil))))) (.one (.cmp .Lt (.bl .len (.cons (.v 0) .nil)) (.v 1)))) (.cons .never
  .nil) .nil)
  (.cons (.forr (.two (.nm 2) (.nm 3)) (.enum (.v 0)) b_check_numbers_1)
  (.cons (.ife (.cmp .Eq (.bl .sum (.cons (.v 0) .nil)) (.c (.int 0))) (.cons .never
  .nil) .nil)
  .nil)))
def d_check_numbers : Df := ⟨2, 4, b_check_numbers, false⟩
def b_shares_text : Ss :=
  (.cons (.setC 2 (.comp false (.fs (.cons (.fm (.v 3)) (.cons (.c (.str [58, 32])) (.cons (.fm (.v 4)) .nil)))) (.two (.nm 3) (.nm 4)) (.zip (.cl n_every_row (.cons (.bl .len (.cons (.v 0) .nil)) .nil)) (.v 1)) [3, 4] (.cons (.cmp .Gt (.v 4) (.c (.int 0))) .nil)))
  (.cons (.ret (.mt .join (.c (.str [10])) (.cons (.bin .Add (.lst false (.cons (.bin .Add (.gc "MARKS_WORD" (.str [109, 97, 114, 107, 115, 32])) (.mt .join (.c (.str [44, 32])) (.cons (.v 0) .nil))) .nil)) (.v 2)) .nil)))
  .nil))
def d_shares_text : Df := ⟨2, 5, b_shares_text, false⟩
def b_like : Ss :=
  (.cons (.ret (.mk c_Shares (.cons (.tup (.cons (.c (.str [97])) (.cons (.c (.str [98])) .nil))) (.cons (.tup (.cons (.c (.int 2)) (.cons (.c (.int 1)) (.cons (.c (.int 1)) (.cons (.c (.int 2)) .nil))))) .nil))))
  .nil)
def d_like : Df := ⟨0, 0, b_like, false⟩
def b_odd : Ss :=
  (.cons (.ret (.mk c_Shares (.cons (.tup (.cons (.c (.str [97])) (.cons (.c (.str [98])) .nil))) (.cons (.tup (.cons (.c (.int 1)) (.cons (.c (.int 2)) (.cons (.c (.int 2)) (.cons (.c (.int 1)) .nil))))) .nil))))
  .nil)
def d_odd : Df := ⟨0, 0, b_odd, false⟩
def b_lamps : Ss :=
  (.cons (.ret (.mk c_Shares (.cons (.tup (.cons (.c (.str [108, 97, 109, 112])) (.cons (.c (.str [100, 111, 111, 114])) .nil))) (.cons (.tup (.cons (.c (.int 3)) (.cons (.c (.int 1)) (.cons (.c (.int 0)) (.cons (.c (.int 2)) .nil))))) .nil))))
  .nil)
def d_lamps : Df := ⟨0, 0, b_lamps, false⟩
def b__law_bag_1 : Ss :=
  (.cons (.set 3 (.bin .Mod (.bl .int (.cons (.bin .Add (.bin .Add (.bin .Mult (.v 3) (.c (.int 51713))) (.bin .Mod (.bl .int (.cons (.v 4) .nil)) (.c (.int 1000121)))) (.bin .Mult (.c (.int 17)) (.v 1))) .nil)) (.c (.int 2147483549))))
  .nil)
def b__law_bag : Ss :=
  (.cons (.par 2 3 (.ite (.cmp .Lt (.v 1) (.bl .len (.cons (.v 0) .nil))) (.bl .int (.cons (.ix (.v 0) (.v 1)) .nil)) (.c (.int 0))) (.bin .Mult (.c (.int 99013)) (.bin .Add (.v 1) (.c (.int 5)))))
  (.cons (.forr (.nm 4) (.it (.sl (.v 0) .nil (.cons (.c (.int 7)) .nil))) b__law_bag_1)
  (.cons (.set 5 (.ite (.or2 (.cmp .Lt (.v 2) (.c (.int 0))) (.one (.cmp .GtE (.v 2) (.bin .Pow (.c (.int 10)) (.c (.int 15)))))) (.bl .abs (.cons (.v 2) .nil)) (.c (.int 0))))
  (.cons (.ret (.lst true (.cons (.v 5) (.cons (.bin .Mod (.bl .int (.cons (.bin .Add (.v 3) (.bin .Mult (.c (.int 99991)) (.bin .Mod (.bl .int (.cons (.v 2) .nil)) (.c (.int 999931))))) .nil)) (.c (.int 2147483549))) (.cons (.c (.int 0)) .nil)))))
  .nil))))
def d__law_bag : Df := ⟨2, 6, b__law_bag, true⟩
def b__law_draw : Ss :=
  (.cons (.put (.v 0) (.c (.int 2)) (.bin .Add (.ix (.v 0) (.c (.int 2))) (.c (.int 1))))
  (.cons (.ife (.cmp .Gt (.ix (.v 0) (.c (.int 0))) (.c (.int 0))) (.cons (.set 2 (.bin .Mod (.bl .int (.cons (.ix (.v 0) (.c (.int 0))) .nil)) (.v 1)))
  (.cons (.put (.v 0) (.c (.int 0)) (.bin .FloorDiv (.ix (.v 0) (.c (.int 0))) (.v 1)))
  (.cons (.ret (.v 2))
  .nil))) .nil)
  (.cons (.set 3 (.bin .Add (.bl .int (.cons (.ix (.v 0) (.c (.int 1))) .nil)) (.bin .Mult (.c (.int 65003)) (.ix (.v 0) (.c (.int 2))))))
  (.cons (.set 4 (.bin .Add (.bin .Mod (.bl .int (.cons (.v 3) .nil)) (.c (.int 60013))) (.c (.int 49003))))
  (.cons (.put (.v 0) (.c (.int 1)) (.bin .Mod (.bl .int (.cons (.bin .Add (.bin .Add (.bin .Mult (.v 3) (.v 4)) (.bin .Mult (.c (.int 11)) (.ix (.v 0) (.c (.int 2))))) (.c (.int 19))) .nil)) (.c (.int 2147483549))))
  (.cons (.ret (.bin .Mod (.bin .FloorDiv (.bl .int (.cons (.ix (.v 0) (.c (.int 1))) .nil)) (.c (.int 509))) (.v 1)))
  .nil))))))
def d__law_draw : Df := ⟨2, 5, b__law_draw, false⟩
def b__law_one : Ss :=
  (.cons (.ret (.ix (.v 1) (.cl n__law_draw (.cons (.v 0) (.cons (.bl .len (.cons (.v 1) .nil)) .nil)))))
  .nil)
def d__law_one : Df := ⟨2, 2, b__law_one, false⟩
def b__law_marks : Ss :=
  (.cons (.set 2 (.lst true (.cons (.c (.str [97])) (.cons (.c (.str [98])) (.cons (.c (.str [99])) (.cons (.c (.str [97, 98])) (.cons (.c (.str [108, 97, 109, 112])) (.cons (.c (.str [109, 97, 114, 107, 115])) (.cons (.c (.str [110, 111, 110, 97])) (.cons (.c (.str [120])) (.cons (.c (.str [97, 98, 99, 100, 101, 102, 103, 104])) (.cons (.c (.str [97, 97])) (.cons (.c (.str [122])) (.cons (.c (.str [107, 105, 110, 100])) (.cons (.c (.str [121])) (.cons (.c (.str [98, 97])) .nil))))))))))))))))
  (.cons (.ret (.bl .tuple (.cons (.comp false (.mt .popAt (.v 2) (.cons (.cl n__law_draw (.cons (.v 0) (.cons (.bl .len (.cons (.v 2) .nil)) .nil))) .nil)) (.nm 3) (.rng1 (.v 1)) [3] .nil) .nil)))
  .nil))
def d__law_marks : Df := ⟨2, 4, b__law_marks, false⟩
def b__law_rows_1 : Ss :=
  (.cons (.set 3 (.bin .Add (.v 3) (.lst false (.cons (.bin .Add (.v 4) (.c (.str [48]))) (.cons (.bin .Add (.v 4) (.c (.str [49]))) .nil)))))
  .nil)
def b__law_rows_2 : Ss :=
  (.cons (.set 3 (.lst false .nil))
  (.cons (.forr (.nm 4) (.it (.v 1)) b__law_rows_1)
  (.cons (.set 1 (.v 3))
  .nil)))
def b__law_rows : Ss :=
  (.cons (.set 1 (.lst false (.cons (.c (.str [])) .nil)))
  (.cons (.forr (.nm 2) (.rng1 (.v 0)) b__law_rows_2)
  (.cons (.ret (.v 1))
  .nil)))
def d__law_rows : Df := ⟨1, 5, b__law_rows, false⟩
def b__law_numbers : Ss :=
  (.cons (.set 2 (.cl n__law_draw (.cons (.v 0) (.cons (.c (.int 5)) .nil))))
  (.cons (.set 3 (.ix (.lst false (.cons (.lst false (.cons (.c (.int 0)) (.cons (.c (.int 1)) (.cons (.c (.int 2)) (.cons (.c (.int 3)) .nil))))) (.cons (.lst false (.cons (.c (.int 0)) (.cons (.c (.int 0)) (.cons (.c (.int 0)) (.cons (.c (.int 1)) (.cons (.c (.int 5)) .nil)))))) (.cons (.lst false (.cons (.c (.int 1)) (.cons (.c (.int 2)) (.cons (.c (.int 3)) (.cons (.c (.int 4)) (.cons (.c (.int 7)) .nil)))))) (.cons (.lst false (.cons (.c (.int 0)) (.cons (.c (.int 1)) (.cons (.bin .Pow (.c (.int 10)) (.c (.int 12))) (.cons (.bin .Pow (.c (.int 10)) (.c (.int 6))) .nil))))) (.cons (.lst false (.cons (.c (.int 1)) (.cons (.c (.int 1)) (.cons (.c (.int 1)) (.cons (.c (.int 2)) .nil))))) .nil)))))) (.v 2)))
  (.cons (.setC 4 (.comp true (.cl n__law_one (.cons (.v 0) (.cons (.v 3) .nil))) (.nm 5) (.rng1 (.v 1)) [5] .nil))
  (.cons (.ife (.cmp .Eq (.bl .sum (.cons (.v 4) .nil)) (.c (.int 0))) (.cons (.put (.v 4) (.cl n__law_draw (.cons (.v 0) (.cons (.v 1) .nil))) (.c (.int 1)))
  .nil) .nil)
  (.cons (.ret (.bl .tuple (.cons (.v 4) .nil)))
  .nil)))))
def d__law_numbers : Df := ⟨2, 6, b__law_numbers, false⟩
def b__law_shares : Ss :=
  (.cons (.set 2 (.cl n__law_marks (.cons (.v 0) (.cons (.bin .Add (.c (.int 1)) (.cl n__law_draw (.cons (.v 0) (.cons (.v 1) .nil)))) .nil))))
  (.cons (.ret (.lst false (.cons (.v 2) (.cons (.cl n__law_numbers (.cons (.v 0) (.cons (.bl .len (.cons (.cl n__law_rows (.cons (.bl .len (.cons (.v 2) .nil)) .nil)) .nil)) .nil))) .nil))))
  .nil))
def d__law_shares : Df := ⟨2, 3, b__law_shares, false⟩
def b__law_made : Ss :=
  (.cons (.ret (.mk c_Shares (.cons (.ix (.v 0) (.c (.int 0))) (.cons (.ix (.v 0) (.c (.int 1))) .nil))))
  .nil)
def d__law_made : Df := ⟨1, 1, b__law_made, false⟩
def b__law_right_1 : Ss :=
  (.cons (.ife (.cmp .NotEq (.eqO false f___eq__ (.v 3) (.v 1)) (.cmp .Eq (.om 4 (.v 3) .nil) (.om 4 (.v 1) .nil))) (.cons (.ret (.c (.bl false)))
  .nil) .nil)
  .nil)
def b__law_right : Ss :=
  (.cons (.set 1 (.cl n__law_made (.cons (.cl n__law_shares (.cons (.v 0) (.cons (.c (.int 3)) .nil))) .nil)))
  (.cons (.set 2 (.lst false (.cons (.cl n_like .nil) (.cons (.cl n_odd .nil) (.cons (.cl n_lamps .nil) .nil)))))
  (.cons (.ife (.or2 (.eqL true f___eq__ (.lst false (.cons (.cl n_like .nil) (.cons (.cl n_odd .nil) (.cons (.cl n_lamps .nil) .nil)))) (.v 2)) (.or2 (.eqO false f___eq__ (.ix (.v 2) (.c (.int 0))) (.ix (.v 2) (.c (.int 1)))) (.one (.eqO false f___eq__ (.ix (.v 2) (.c (.int 1))) (.ix (.v 2) (.c (.int 2))))))) (.cons (.ret (.c (.bl false)))
  .nil) .nil)
  (.cons (.forr (.nm 3) (.it (.v 2)) b__law_right_1)
  (.cons (.ret (.cmp .Eq (.comp false (.sp1 .len f___len__ (.v 3)) (.nm 3) (.it (.v 2)) [3] .nil) (.lst false (.cons (.c (.int 4)) (.cons (.c (.int 4)) (.cons (.c (.int 4)) .nil))))))
  .nil)))))
def d__law_right : Df := ⟨1, 4, b__law_right, false⟩
def b_law : Ss :=
  (.cons (.ife (.cmp .NotEq (.bl .repr (.cons (.lst false (.cons (.gc "MOST_NAME" (.int 8)) (.cons (.gc "MOST_MARKS" (.int 4)) (.cons (.gc "MOST_NUMBER" (.int 1000000000000)) (.cons (.gc "MOST_TIES" (.int 12)) (.cons (.gc "MOST_FACTOR" (.int 10)) .nil)))))) .nil)) (.bl .repr (.cons (.lst false (.cons (.c (.int 8)) (.cons (.c (.int 4)) (.cons (.bin .Pow (.c (.int 10)) (.c (.int 12))) (.cons (.c (.int 12)) (.cons (.c (.int 10)) .nil)))))) .nil))) (.cons (.ret (.c (.bl false)))
  .nil) .nil)
  (.cons (.ife (.cmp .NotEq (.lst false (.cons (.fld (.cl n_like .nil) 0) (.cons (.fld (.cl n_like .nil) 1) (.cons (.fld (.cl n_odd .nil) 0) (.cons (.fld (.cl n_odd .nil) 1) .nil))))) (.lst false (.cons (.tup (.cons (.c (.str [97])) (.cons (.c (.str [98])) .nil))) (.cons (.tup (.cons (.c (.int 2)) (.cons (.c (.int 1)) (.cons (.c (.int 1)) (.cons (.c (.int 2)) .nil))))) (.cons (.tup (.cons (.c (.str [97])) (.cons (.c (.str [98])) .nil))) (.cons (.tup (.cons (.c (.int 1)) (.cons (.c (.int 2)) (.cons (.c (.int 2)) (.cons (.c (.int 1)) .nil))))) .nil)))))) (.cons (.ret (.c (.bl false)))
  .nil) .nil)
  (.cons (.ife (.cmp .NotEq (.om 4 (.cl n_lamps .nil) .nil) (.c (.str [109, 97, 114, 107, 115, 32, 108, 97, 109, 112, 44, 32, 100, 111, 111, 114, 10, 48, 48, 58, 32, 51, 10, 48, 49, 58, 32, 49, 10, 49, 49, 58, 32, 50]))) (.cons (.ret (.c (.bl false)))
  .nil) .nil)
  (.cons (.ret (.bl .all (.cons (.comp false (.cl n__law_right (.cons (.cl n__law_bag (.cons (.v 0) (.cons (.v 1) .nil))) .nil)) (.nm 1) (.rng1 (.bl .max2 (.cons (.c (.int 2)) (.cons (.bl .min2 (.cons (.bl .len (.cons (.v 0) .nil)) (.cons (.c (.int 3)) .nil))) .nil)))) [1] .nil) .nil)))
  .nil))))
def d_law : Df := ⟨1, 2, b_law, false⟩
def b_Shares___init__ : Ss :=
  (.cons (.ex (.cl n_check_marks (.cons (.v 1) .nil)))
  (.cons (.ex (.cl n_check_numbers (.cons (.v 2) (.cons (.bin .LShift (.c (.int 1)) (.bl .len (.cons (.v 1) .nil))) .nil))))
  (.cons (.fput (.v 0) 0 (.v 1))
  (.cons (.fput (.v 0) 1 (.v 2))
  (.cons (.fput (.v 0) 2 (.bl .sum (.cons (.v 2) .nil)))
  .nil)))))
def d_Shares___init__ : Df := ⟨3, 3, b_Shares___init__, false⟩
def b_Shares___len__ : Ss :=
  (.cons (.ret (.bl .len (.cons (.fld (.v 0) 1) .nil)))
  .nil)
def d_Shares___len__ : Df := ⟨1, 1, b_Shares___len__, false⟩
def b_Shares___eq__ : Ss :=
  (.cons (.ret (.and2 (.bl .isi (.cons (.v 1) (.cons (.gl 0) .nil))) (.and2 (.cmp .Eq (.fld (.v 0) 0) (.fld (.v 1) 0)) (.one (.cmp .Eq (.fld (.v 0) 1) (.fld (.v 1) 1))))))
  .nil)
def d_Shares___eq__ : Df := ⟨2, 2, b_Shares___eq__, false⟩
def b_Shares___str__ : Ss :=
  (.cons (.ret (.bl .str (.cons (.om 4 (.v 0) .nil) .nil)))
  .nil)
def d_Shares___str__ : Df := ⟨1, 1, b_Shares___str__, false⟩
def b_Shares_text : Ss :=
  (.cons (.ret (.cl n_shares_text (.cons (.fld (.v 0) 0) (.cons (.fld (.v 0) 1) .nil))))
  .nil)
def d_Shares_text : Df := ⟨1, 1, b_Shares_text, false⟩
def D : Nat → Option Df
  | 0 => some d_every_row
  | 1 => some d_is_name
  | 2 => some d_is_integer
  | 3 => some d_is_share
  | 4 => some d_check_marks
  | 5 => some d_check_numbers
  | 6 => some d_shares_text
  | 7 => some d_like
  | 8 => some d_odd
  | 9 => some d_lamps
  | 10 => some d__law_bag
  | 11 => some d__law_draw
  | 12 => some d__law_one
  | 13 => some d__law_marks
  | 14 => some d__law_rows
  | 15 => some d__law_numbers
  | 16 => some d__law_shares
  | 17 => some d__law_made
  | 18 => some d__law_right
  | 19 => some d_law
  | 20 => some d_Shares___init__
  | 21 => some d_Shares___len__
  | 22 => some d_Shares___eq__
  | 23 => some d_Shares___str__
  | 24 => some d_Shares_text
  | _ => none
theorem D_every_row : D n_every_row = some d_every_row := rfl
theorem D_is_name : D n_is_name = some d_is_name := rfl
theorem D_is_integer : D n_is_integer = some d_is_integer := rfl
theorem D_is_share : D n_is_share = some d_is_share := rfl
theorem D_check_marks : D n_check_marks = some d_check_marks := rfl
theorem D_check_numbers : D n_check_numbers = some d_check_numbers := rfl
theorem D_shares_text : D n_shares_text = some d_shares_text := rfl
theorem D_like : D n_like = some d_like := rfl
theorem D_odd : D n_odd = some d_odd := rfl
theorem D_lamps : D n_lamps = some d_lamps := rfl
theorem D__law_bag : D n__law_bag = some d__law_bag := rfl
theorem D__law_draw : D n__law_draw = some d__law_draw := rfl
theorem D__law_one : D n__law_one = some d__law_one := rfl
theorem D__law_marks : D n__law_marks = some d__law_marks := rfl
theorem D__law_rows : D n__law_rows = some d__law_rows := rfl
theorem D__law_numbers : D n__law_numbers = some d__law_numbers := rfl
theorem D__law_shares : D n__law_shares = some d__law_shares := rfl
theorem D__law_made : D n__law_made = some d__law_made := rfl
theorem D__law_right : D n__law_right = some d__law_right := rfl
theorem D_law : D n_law = some d_law := rfl
theorem D_Shares___init__ : D n_Shares___init__ = some d_Shares___init__ := rfl
theorem D_Shares___len__ : D n_Shares___len__ = some d_Shares___len__ := rfl
theorem D_Shares___eq__ : D n_Shares___eq__ = some d_Shares___eq__ := rfl
theorem D_Shares___str__ : D n_Shares___str__ = some d_Shares___str__ := rfl
theorem D_Shares_text : D n_Shares_text = some d_Shares_text := rfl
def C : Nat → Option Cl
  | 0 => some ⟨n_Shares___init__, [(5, n_Shares___len__), (3, n_Shares___eq__), (4, n_Shares_text)], [f_marks, f_numbers, f_total], true⟩
  | _ => none
def kit : List (Ck × Ck × Bool) := [(.ty "NoneType", .cls 0, false), (.ty "bool", .cls 0, false), (.ty "int", .cls 0, false), (.ty "str", .cls 0, false), (.ty "tuple", .cls 0, false), (.ty "list", .cls 0, false), (.ty "dict", .cls 0, false), (.cls 0, .cls 0, true), (.ty "NoneType", .ty "bool", false), (.ty "bool", .ty "bool", true), (.ty "int", .ty "bool", false), (.ty "str", .ty "bool", false), (.ty "tuple", .ty "bool", false), (.ty "list", .ty "bool", false), (.ty "dict", .ty "bool", false), (.cls 0, .ty "bool", false), (.ty "NoneType", .ty "int", false), (.ty "bool", .ty "int", true), (.ty "int", .ty "int", true), (.ty "str", .ty "int", false), (.ty "tuple", .ty "int", false), (.ty "list", .ty "int", false), (.ty "dict", .ty "int", false), (.cls 0, .ty "int", false), (.ty "NoneType", .ty "str", false), (.ty "bool", .ty "str", false), (.ty "int", .ty "str", false), (.ty "str", .ty "str", true), (.ty "tuple", .ty "str", false), (.ty "list", .ty "str", false), (.ty "dict", .ty "str", false), (.cls 0, .ty "str", false), (.ty "NoneType", .ty "tuple", false), (.ty "bool", .ty "tuple", false), (.ty "int", .ty "tuple", false), (.ty "str", .ty "tuple", false), (.ty "tuple", .ty "tuple", true), (.ty "list", .ty "tuple", false), (.ty "dict", .ty "tuple", false), (.cls 0, .ty "tuple", false)]
def pg : Pg := { cls := C, kit := kit, own := [0] }
def tb : Tab := { fn := [("every_row" : Str), ("is_name" : Str), ("is_integer" : Str), ("is_share" : Str), ("check_marks" : Str), ("check_numbers" : Str), ("shares_text" : Str), ("like" : Str), ("odd" : Str), ("lamps" : Str), ("_law_bag" : Str), ("_law_draw" : Str), ("_law_one" : Str), ("_law_marks" : Str), ("_law_rows" : Str), ("_law_numbers" : Str), ("_law_shares" : Str), ("_law_made" : Str), ("_law_right" : Str), ("law" : Str)], gl := [("Shares" : Str)], nm := [("marks" : Str), ("numbers" : Str), ("total" : Str), ("__eq__" : Str), ("text" : Str), ("__len__" : Str)], gc := [("MOST_NAME", (.int 8)), ("MOST_MARKS", (.int 4)), ("MOST_NUMBER", (.int 1000000000000)), ("MOST_TIES", (.int 12)), ("MOST_FACTOR", (.int 10)), ("LETTERS", (.str [97, 98, 99, 100, 101, 102, 103, 104, 105, 106, 107, 108, 109, 110, 111, 112, 113, 114, 115, 116, 117, 118, 119, 120, 121, 122])), ("MARKS_WORD", (.str [109, 97, 114, 107, 115, 32]))], free := [("range" : Str), ("tuple" : Str), ("len" : Str), ("str" : Str), ("isinstance" : Str), ("all" : Str), ("bool" : Str), ("int" : Str), ("enumerate" : Str), ("sum" : Str), ("zip" : Str), ("abs" : Str), ("repr" : Str), ("min" : Str), ("max" : Str)], cl := [0], kb := [] }
theorem go_every_row {d : Nat} {st : Sto} {a0 : T} : run pg D (d + 1) n_every_row [a0] st = fnEnd false st (exs pg (run pg D d) b_every_row [some a0, none, none, none, none] st) := run_at D_every_row rfl
theorem go_is_name {d : Nat} {st : Sto} {a0 : T} : run pg D (d + 1) n_is_name [a0] st = fnEnd false st (exs pg (run pg D d) b_is_name [some a0, none] st) := run_at D_is_name rfl
theorem go_is_integer {d : Nat} {st : Sto} {a0 : T} : run pg D (d + 1) n_is_integer [a0] st = fnEnd false st (exs pg (run pg D d) b_is_integer [some a0] st) := run_at D_is_integer rfl
theorem go_is_share {d : Nat} {st : Sto} {a0 : T} : run pg D (d + 1) n_is_share [a0] st = fnEnd false st (exs pg (run pg D d) b_is_share [some a0] st) := run_at D_is_share rfl
theorem go_check_marks {d : Nat} {st : Sto} {a0 : T} : run pg D (d + 1) n_check_marks [a0] st = fnEnd false st (exs pg (run pg D d) b_check_marks [some a0, none, none] st) := run_at D_check_marks rfl
theorem go_check_numbers {d : Nat} {st : Sto} {a0 a1 : T} : run pg D (d + 1) n_check_numbers [a0, a1] st = fnEnd false st (exs pg (run pg D d) b_check_numbers [some a0, some a1, none, none] st) := run_at D_check_numbers rfl
theorem go_shares_text {d : Nat} {st : Sto} {a0 a1 : T} : run pg D (d + 1) n_shares_text [a0, a1] st = fnEnd false st (exs pg (run pg D d) b_shares_text [some a0, some a1, none, none, none] st) := run_at D_shares_text rfl
theorem go_like {d : Nat} {st : Sto} : run pg D (d + 1) n_like [] st = fnEnd false st (exs pg (run pg D d) b_like [] st) := run_at D_like rfl
theorem go_odd {d : Nat} {st : Sto} : run pg D (d + 1) n_odd [] st = fnEnd false st (exs pg (run pg D d) b_odd [] st) := run_at D_odd rfl
theorem go_lamps {d : Nat} {st : Sto} : run pg D (d + 1) n_lamps [] st = fnEnd false st (exs pg (run pg D d) b_lamps [] st) := run_at D_lamps rfl
theorem go__law_bag {d : Nat} {st : Sto} {a0 a1 : T} : run pg D (d + 1) n__law_bag [a0, a1] st = fnEnd true st (exs pg (run pg D d) b__law_bag [some a0, some a1, none, none, none, none] st) := run_at D__law_bag rfl
theorem go__law_draw {d : Nat} {st : Sto} {a0 a1 : T} : run pg D (d + 1) n__law_draw [a0, a1] st = fnEnd false st (exs pg (run pg D d) b__law_draw [some a0, some a1, none, none, none] st) := run_at D__law_draw rfl
theorem go__law_one {d : Nat} {st : Sto} {a0 a1 : T} : run pg D (d + 1) n__law_one [a0, a1] st = fnEnd false st (exs pg (run pg D d) b__law_one [some a0, some a1] st) := run_at D__law_one rfl
theorem go__law_marks {d : Nat} {st : Sto} {a0 a1 : T} : run pg D (d + 1) n__law_marks [a0, a1] st = fnEnd false st (exs pg (run pg D d) b__law_marks [some a0, some a1, none, none] st) := run_at D__law_marks rfl
theorem go__law_rows {d : Nat} {st : Sto} {a0 : T} : run pg D (d + 1) n__law_rows [a0] st = fnEnd false st (exs pg (run pg D d) b__law_rows [some a0, none, none, none, none] st) := run_at D__law_rows rfl
theorem go__law_numbers {d : Nat} {st : Sto} {a0 a1 : T} : run pg D (d + 1) n__law_numbers [a0, a1] st = fnEnd false st (exs pg (run pg D d) b__law_numbers [some a0, some a1, none, none, none, none] st) := run_at D__law_numbers rfl
theorem go__law_shares {d : Nat} {st : Sto} {a0 a1 : T} : run pg D (d + 1) n__law_shares [a0, a1] st = fnEnd false st (exs pg (run pg D d) b__law_shares [some a0, some a1, none] st) := run_at D__law_shares rfl
theorem go__law_made {d : Nat} {st : Sto} {a0 : T} : run pg D (d + 1) n__law_made [a0] st = fnEnd false st (exs pg (run pg D d) b__law_made [some a0] st) := run_at D__law_made rfl
theorem go__law_right {d : Nat} {st : Sto} {a0 : T} : run pg D (d + 1) n__law_right [a0] st = fnEnd false st (exs pg (run pg D d) b__law_right [some a0, none, none, none] st) := run_at D__law_right rfl
theorem go_law {d : Nat} {st : Sto} {a0 : T} : run pg D (d + 1) n_law [a0] st = fnEnd false st (exs pg (run pg D d) b_law [some a0, none] st) := run_at D_law rfl
theorem go_Shares___init__ {d : Nat} {st : Sto} {a0 a1 a2 : T} : run pg D (d + 1) n_Shares___init__ [a0, a1, a2] st = fnEnd false st (exs pg (run pg D d) b_Shares___init__ [some a0, some a1, some a2] st) := run_at D_Shares___init__ rfl
theorem go_Shares___len__ {d : Nat} {st : Sto} {a0 : T} : run pg D (d + 1) n_Shares___len__ [a0] st = fnEnd false st (exs pg (run pg D d) b_Shares___len__ [some a0] st) := run_at D_Shares___len__ rfl
theorem go_Shares___eq__ {d : Nat} {st : Sto} {a0 a1 : T} : run pg D (d + 1) n_Shares___eq__ [a0, a1] st = fnEnd false st (exs pg (run pg D d) b_Shares___eq__ [some a0, some a1] st) := run_at D_Shares___eq__ rfl
theorem go_Shares___str__ {d : Nat} {st : Sto} {a0 : T} : run pg D (d + 1) n_Shares___str__ [a0] st = fnEnd false st (exs pg (run pg D d) b_Shares___str__ [some a0] st) := run_at D_Shares___str__ rfl
theorem go_Shares_text {d : Nat} {st : Sto} {a0 : T} : run pg D (d + 1) n_Shares_text [a0] st = fnEnd false st (exs pg (run pg D d) b_Shares_text [some a0] st) := run_at D_Shares_text rfl
end LW
end
section
set_option Elab.async false
set_option linter.all false
set_option maxRecDepth 100000
set_option maxHeartbeats 400001
set_option exponentiation.threshold 3000
namespace LW
open Mu PySem
/-! signs, rows -/
def rowsN : Nat → List (List Nat)
  | 0 => [[]]
  | n + 1 => (rowsN n).flatMap fun r => [r ++ [48], r ++ [49]]
def sgB (c : Nat) : Bool := decide (c ∈ [48, 49])
def Row (n : Nat) (r : List Nat) : Prop := r.length = n ∧ ∀ c ∈ r, sgB c = true
theorem row_mem : ∀ {n : Nat} {r : List Nat}, r ∈ rowsN n → Row n r
  | 0, r, h => by
    simp [rowsN] at h
    subst h
    exact ⟨rfl, fun c hc =>
            by cases hc⟩
  | n + 1, r, h => by
    simp only [rowsN, List.mem_flatMap, List.mem_cons, List.not_mem_nil, or_false] at h
    obtain ⟨q, hq, h⟩ := h
    obtain ⟨h1, h2⟩ := row_mem hq
    rcases h with rfl | rfl
    · refine ⟨by simp [h1], fun c hc => ?_⟩
      rcases List.mem_append.mp
              hc with hc | hc
      · exact h2 c hc
      · simp at hc; subst hc; rfl
    · refine ⟨by simp [h1], fun c hc => ?_⟩
      rcases List.mem_append.mp
              hc with hc | hc
      · exact h2 c hc
      · simp at hc; subst hc; rfl
def valR : List Nat → Nat → Nat
  | [], a => a
  | c :: cs, a => valR cs (2 * a + (c - 48))
theorem binN_row : ∀ {r : List Nat} {a : Nat}, (∀ c ∈ r, sgB c = true) → binN r a = some (valR r a)
  | [], a, _ => rfl
  | c :: cs, a, h => by
    have hc : c = 48 ∨ c = 49 := by simpa [sgB] using h c List.mem_cons_self
    have ih := fun a => binN_row (r := cs) (a := a) fun x hx => h x (List.mem_cons_of_mem _ hx)
    rcases hc with rfl | rfl
    · exact ih _
    · exact ih _
theorem isi_str {st : Sto} {cs : List Nat} : isiT pg st (.str cs) (.ty "str") = some true := by kernel_rfl
theorem isi_int {st : Sto} {i : Int} : isiT pg st (.int i) (.ty "int") = some true := by kernel_rfl
theorem isi_intb {st : Sto} {i : Int} : isiT pg st (.int i) (.ty "bool") = some false := by kernel_rfl
theorem isi_tup {st : Sto} {ts : List T} : isiT pg st (.tup ts) (.ty "tuple") = some true := by kernel_rfl
theorem isi_sh {st : Sto} {fs : List Nat} {ts : List T} : isiT pg st (.ins 0 fs ts) (.gl 0) = some true := by kernel_rfl
theorem s_every_row {d : Nat} {st : Sto} {n : Nat} (hn : n ≤ 4) : run pg D (d + 1) n_every_row [.int n] st = .ok (.tup ((rowsN n).map .str)) st := by
  have e : exs pg (run pg D d) b_every_row [some (.int n), none, none, none, none] st = .rt (.tup ((rowsN n).map .str)) st := by
    match n, hn with
    | 0, _ => kernel_rfl
    | 1, _ => kernel_rfl
    | 2, _ => kernel_rfl
    | 3, _ => kernel_rfl
    | 4, _ => kernel_rfl
  rw [go_every_row, e]
  exact end_rt0 (pus_strs _)
def orS (x y : List Nat) : List Nat := List.zipWith (fun a b => if a = 49 ∨ b = 49 then 49 else 48) x y
def andS (x y : List Nat) : List Nat := List.zipWith (fun a b => if a = 48 ∨ b = 48 then 48 else 49) x y
theorem row_or {n : Nat} {x y : List Nat} (hx : Row n x) (hy : Row n y) : Row n (orS x y) := by
  refine ⟨by unfold orS; rw [List.length_zipWith, hx.1, hy.1, Nat.min_self], fun c hc => ?_⟩
  obtain ⟨i, hi,
          rfl⟩ := List.getElem_of_mem hc
  simp only [orS, List.getElem_zipWith]
  split <;> rfl
theorem row_and {n : Nat} {x y : List Nat} (hx : Row n x) (hy : Row n y) : Row n (andS x y) := by
  refine ⟨by unfold andS; rw [List.length_zipWith, hx.1, hy.1, Nat.min_self], fun c hc => ?_⟩
  obtain ⟨i, hi,
          rfl⟩ := List.getElem_of_mem hc
  simp only [andS, List.getElem_zipWith]
  split <;> rfl
theorem row_ok {n : Nat} {x : List Nat} (hx : Row n x) : x.all (fun c => decide (c < 1114112)) = true := by
  refine List.all_eq_true.mpr fun c hc => ?_
  have h := hx.2 c hc
  simp only [sgB, List.mem_cons, List.not_mem_nil, or_false, decide_eq_true_eq] at h ⊢
  omega
theorem row_at {n : Nat} {x : List Nat} (hx : Row n x) {k : Nat} (hk : k < n) : ∃ c, x[k]? = some c ∧ c ∈ x := by
  rw [← hx.1] at hk
  exact ⟨x[k], List.getElem?_eq_getElem hk, List.getElem_mem hk⟩
theorem in_lst2 {st : Sto} {a b c : Nat} (ha : c < 1114112) (h1 : sgB a = true) (h2 : sgB b = true) : cmpT st .In (.str [c]) (.lst [.str [a], .str [b]]) = some (decide (a = c) || decide (b = c)) := by
  have hr : ∀ z, sgB z = true → ([z] : List Nat).all (fun c => decide (c < 1114112)) = true := fun z hz => by
    simp only [sgB, List.mem_cons, List.not_mem_nil, or_false, decide_eq_true_eq] at hz
    simp
    omega
  have e := in_strs (x := [c]) (by simpa using ha) (ys := [[a], [b]]) fun y hy => by
    simp only [List.mem_cons, List.not_mem_nil, or_false] at hy
    rcases hy with rfl | rfl
    · exact hr _ h1
    · exact hr _ h2
  rw [in_lst]
  refine e.trans ?_
  simp only [List.mem_cons, List.cons.injEq, and_true, List.not_mem_nil, or_false, Bool.decide_or, eq_comm]
def shT (ms : List (List Nat)) (ns : List Int) : T := .ins 0 [0, 1, 2] [.tup (ms.map .str), .tup (ns.map .int), .int ns.sum]
theorem fld_marks {st : Sto} {ms : List (List Nat)} {ns : List Int} : fldV pg st (shT ms ns) 0 = .ok (.tup (ms.map .str)) st := by kernel_rfl
theorem fld_numbers {st : Sto} {ms : List (List Nat)} {ns : List Int} : fldV pg st (shT ms ns) 1 = .ok (.tup (ns.map .int)) st := by kernel_rfl
theorem isi_shT {st : Sto} {ms : List (List Nat)} {ns : List Int} : isiT pg st (shT ms ns) (.gl 0) = some true := isi_sh
theorem pu_sh (ms : List (List Nat)) (ns : List Int) : Pu (shT ms ns) := by
  simp [shT, Pu, T.lt, T.lts, pus_strs, pus_ints]
theorem valR_lt : ∀ {r : List Nat} {a : Nat}, (∀ c ∈ r, sgB c = true) → valR r a < (a + 1) * 2 ^ r.length
  | [], a, _ => by simp [valR]
  | c :: cs, a, h => by
    have hc : c = 48 ∨ c = 49 := by simpa [sgB] using h c List.mem_cons_self
    have ih := valR_lt (r := cs) (a := 2 * a + (c - 48)) fun x hx => h x (List.mem_cons_of_mem _ hx)
    show valR cs (2 * a + (c - 48)) < _
    refine Nat.lt_of_lt_of_le ih ?_
    rw [List.length_cons, Nat.pow_succ, Nat.mul_comm (2 ^ cs.length) 2, ← Nat.mul_assoc]
    refine Nat.mul_le_mul_right _ ?_
    rcases hc with rfl | rfl <;> omega
def numR (ns : List Int) (r : List Nat) : Int := ns[valR r 0]?.getD 0
/-- shares as they are -/
structure Shs (ms : List (List Nat)) (ns : List Int) : Prop where
  m0 : 0 < ms.length
  m4 : ms.length ≤ 4
  nl : ns.length = 2 ^ ms.length
  nb : ∀ v ∈ ns, 0 ≤ v ∧ v ≤ 1000000000000
theorem num_at {ms : List (List Nat)} {ns : List Int} (S : Shs ms ns) {r : List Nat} (h : Row ms.length r) : ns[valR r 0]? = some (numR ns r) ∧ numR ns r ∈ ns := by
  have hl : valR r 0 < ns.length := by
    have := valR_lt (a := 0) h.2
    rw [h.1] at this
    rw [S.nl]
    omega
  have e :=
          List.getElem?_eq_getElem hl
  have e2 : numR ns r = ns[valR r 0] := by unfold numR; rw [e]; rfl
  exact ⟨by rw [e, e2], by rw [e2]; exact List.getElem_mem hl⟩
abbrev prT (p : List Nat × List Nat) : T := .tup [.str p.1, .str p.2]
theorem num_b {ms : List (List Nat)} {ns : List Int} (S : Shs ms ns) {r : List Nat} (h : Row ms.length r) : -mid < numR ns r ∧ numR ns r < mid := by
  have := S.nb _ (num_at S h).2
  unfold mid
  omega
def against (ns : List Int) (x y : List Nat) : Bool := decide (numR ns (orS x y) * numR ns (andS x y) < numR ns x * numR ns y)
def crossP (x y : List Nat) : Bool := strLt x y && !(decide (x = orS x y) || decide (y = orS x y))
def crossN (n : Nat) : List (List Nat × List Nat) := (rowsN n).flatMap fun x => ((rowsN n).filter (crossP x)).map fun y => (x, y)
theorem rows_len {n : Nat} (hn : n ≤ 4) : (rowsN n).length ≤ 16 := by
  match n, hn with
  | 0, _ => decide
  | 1, _ => decide
  | 2, _ => decide
  | 3, _ => decide
  | 4, _ => decide
theorem cross_row {n : Nat} {p : List Nat × List Nat} (h : p ∈ crossN n) : Row n p.1 ∧ Row n p.2 := by
  obtain ⟨x, hx, h⟩ := List.mem_flatMap.mp h
  obtain ⟨y, hy, rfl⟩ := List.mem_map.mp h
  exact ⟨row_mem hx, row_mem (List.mem_filter.mp hy).1⟩
def optT : Option (List Nat × List Nat) → T
  | some p => prT p
  | none => .non
theorem pu_opt (o : Option (List Nat × List Nat)) : Pu (optT o) := by cases o <;> rfl
def dueP (n : Nat) (ns : List Int) : Option (List Nat × List Nat) := (crossN n).find? fun p => against ns p.1 p.2
abbrev letters : List Nat := [97, 98, 99, 100, 101, 102, 103, 104, 105, 106, 107, 108, 109, 110, 111, 112, 113, 114, 115, 116, 117, 118, 119, 120, 121, 122]
structure Name (m : List Nat) : Prop where
  h0 : 0 < m.length
  h8 : m.length ≤ 8
  hc : ∀ c ∈ m, c ∈ letters
theorem s_is_name {d : Nat} {st : Sto} {m : List Nat} (N : Name m) : run pg D (d + 1) n_is_name [.str m] st = .ok (.bl true) st := by
  have h0 := N.h0
  have h8 := N.h8
  have hl := small (show m.length ≤ 1000 by omega)
  have e1 : decide ((1 : Int) ≤ m.length) = true := decide_eq_true (by omega)
  have e2 : decide ((m.length : Int) ≤ 8) = true := decide_eq_true (by omega)
  rw [go_is_name]
  simp only [XS, XE, XT, XI, XG, XN, XB, XQ, XU, XJ, XL, XO, XP, XA, XK, XK2, XK3, XK4, XK5, XK6, XK7, XK9, XK10, XK11, Option.map_some, Option.bind_some, Bool.not_true, Bool.not_false, if_true, XR, XD, XW, XGS, XZ, XM, XIN, XN2, Nat.reduceLT, List.set_cons_zero, List.set_cons_succ, List.length_cons, List.length_nil, Nat.zero_add, Nat.reduceAdd, b_is_name, isi_str, bl_lens hl, e1, e2]
  rw [compGo_of (fun c => T.str [c]) (fun c => T.bl (decide (c ∈ letters))) fun c hc => ⟨_, rfl, rfl, ?_⟩]
  · rw [List.length_map, cmpK_f (by omega)]
    simp only [XS, XE, XT, XI, XG, XN, XB, XQ, XU, XJ, XL, XO, XP, XA, XK, XK2, XK3, XK4, XK5, XK6, XK7, XK9, XK10, XK11, Option.map_some, Option.bind_some, Bool.not_true, Bool.not_false, if_true, XR, XD, XW, XGS, XZ, XM, XIN, XN2, Nat.reduceLT, List.set_cons_zero, List.set_cons_succ, List.length_cons, List.length_nil, Nat.zero_add, Nat.reduceAdd, all_map]
    rw [List.all_eq_true.mpr fun c hc => decide_eq_true (N.hc c hc)]
    exact end_rt0 (by rfl)
  · simp only [XS, XE, XT, XI, XG, XN, XB, XQ, XU, XJ, XL, XO, XP, XA, XK, XK2, XK3, XK4, XK5, XK6, XK7, XK9, XK10, XK11, Option.map_some, Option.bind_some, Bool.not_true, Bool.not_false, if_true, XR, XD, XW, XGS, XZ, XM, XIN, XN2, Nat.reduceLT, List.set_cons_zero, List.set_cons_succ, List.length_cons, List.length_nil, Nat.zero_add, Nat.reduceAdd]
/-- names as they are asked for -/
structure Names (ms : List (List Nat)) : Prop where
  h0 : 0 < ms.length
  h4 : ms.length ≤ 4
  hn : ∀ m ∈ ms, Name m
  hd : ms.Nodup
theorem not_before {α : Type} {xs : List α} (h : xs.Nodup) {i : Nat} {x : α} (hx : xs[i]? = some x) : x ∉ xs.take i := by
  intro hm
  obtain ⟨j, hj, e⟩ := List.getElem_of_mem hm
  obtain ⟨hi, e2⟩ := List.getElem?_eq_some_iff.mp hx
  rw [List.length_take] at hj
  have hj' : j < xs.length := by omega
  rw [List.getElem_take] at e
  exact List.pairwise_iff_getElem.mp h j i hj' hi (by omega) (by rw [e, e2])
theorem s_check_marks {d : Nat} {st : Sto} {ms : List (List Nat)} (N : Names ms) : run pg D (d + 2) n_check_marks [.tup (ms.map .str)] st = .ok .non st := by
  have h0 := N.h0
  have h4 := N.h4
  have e0 : decide ((ms.length : Int) = 0) = false := decide_eq_false (by omega)
  rw [go_check_marks]
  simp only [XS, XE, XT, XI, XG, XN, XB, XQ, XU, XJ, XL, XO, XP, XA, XK, XK2, XK3, XK4, XK5, XK6, XK7, XK9, XK10, XK11, Option.map_some, Option.bind_some, Bool.not_true, Bool.not_false, if_true, XR, XD, XW, XGS, XZ, XM, XIN, XN2, Nat.reduceLT, List.set_cons_zero, List.set_cons_succ, List.length_cons, List.length_nil, Nat.zero_add, Nat.reduceAdd, b_check_marks, isi_tup, List.length_map, e0]
  refine exFor_atC (fun z => fnEnd false st (RS.seq z _) = _) (fun _ env s => s = st ∧ ∃ a b, env = [some (.tup (ms.map .str)), a, b]) ⟨rfl, none, none, rfl⟩ ?_ ?_
  · rintro i t ht env s ⟨rfl, a, b, rfl⟩
    obtain ⟨x, hx, rfl⟩ := enum_at ht
    rw [List.getElem?_map, Option.map_eq_some_iff] at hx
    obtain ⟨m, hm, rfl⟩ := hx
    obtain ⟨hi, _⟩ := List.getElem?_eq_some_iff.mp hm
    have e1 : decide ((4 : Int) ≤ i) = false := decide_eq_false (by omega)
    have e2 : cutT (ms.map T.str) none (some (i : Int)) = (ms.take i).map T.str := by
      rw [cut_take (by rw [List.length_map]; omega), List.map_take]
    have e3 : decide (m ∈ ms.take i) = false := decide_eq_false (not_before N.hd hm)
    refine ⟨_, rfl, [some (.tup (ms.map .str)), some (.int ((0 + i : Nat) : Int)), some (.str m)], s, ?_, rfl, _, _, rfl⟩
    simp only [XS, XE, XT, XI, XG, XN, XB, XQ, XU, XJ, XL, XO, XP, XA, XK, XK2, XK3, XK4, XK5, XK6, XK7, XK9, XK10, XK11, Option.map_some, Option.bind_some, Bool.not_true, Bool.not_false, if_true, XR, XD, XW, XGS, XZ, XM, XIN, XN2, Nat.reduceLT, List.set_cons_zero, List.set_cons_succ, List.length_cons, List.length_nil, Nat.zero_add, Nat.reduceAdd, b_check_marks_1, e1, e2, e3, s_is_name (N.hn m (List.mem_of_getElem? hm)), in_tups]
  · rintro env s ⟨rfl, a, b, rfl⟩
    simp only [XS, XE, XT, XI, XG, XN, XB, XQ, XU, XJ, XL, XO, XP, XA, XK, XK2, XK3, XK4, XK5, XK6, XK7, XK9, XK10, XK11, Option.map_some, Option.bind_some, Bool.not_true, Bool.not_false, if_true, XR, XD, XW, XGS, XZ, XM, XIN, XN2, Nat.reduceLT, List.set_cons_zero, List.set_cons_succ, List.length_cons, List.length_nil, Nat.zero_add, Nat.reduceAdd]
    exact end_nx0
theorem s_is_integer {d : Nat} {st : Sto} {v : Int} : run pg D (d + 1) n_is_integer [.int v] st = .ok (.bl true) st := by
  rw [go_is_integer]
  simp only [XS, XE, XT, XI, XG, XN, XB, XQ, XU, XJ, XL, XO, XP, XA, XK, XK2, XK3, XK4, XK5, XK6, XK7, XK9, XK10, XK11, Option.map_some, Option.bind_some, Bool.not_true, Bool.not_false, if_true, XR, XD, XW, XGS, XZ, XM, XIN, XN2, Nat.reduceLT, List.set_cons_zero, List.set_cons_succ, List.length_cons, List.length_nil, Nat.zero_add, Nat.reduceAdd, b_is_integer, isi_int, isi_intb]
  exact end_rt0 (by rfl)
theorem s_is_share {d : Nat} {st : Sto} {v : Int} (h : 0 ≤ v ∧ v ≤ 1000000000000) : run pg D (d + 2) n_is_share [.int v] st = .ok (.bl true) st := by
  rw [go_is_share]
  simp only [XS, XE, XT, XI, XG, XN, XB, XQ, XU, XJ, XL, XO, XP, XA, XK, XK2, XK3, XK4, XK5, XK6, XK7, XK9, XK10, XK11, Option.map_some, Option.bind_some, Bool.not_true, Bool.not_false, if_true, XR, XD, XW, XGS, XZ, XM, XIN, XN2, Nat.reduceLT, List.set_cons_zero, List.set_cons_succ, List.length_cons, List.length_nil, Nat.zero_add, Nat.reduceAdd, b_is_share, s_is_integer, decide_eq_true h.1, decide_eq_true h.2]
  exact end_rt0 (by rfl)
theorem s_check_numbers {d : Nat} {st : Sto} {ns : List Int} (h : ∀ v ∈ ns, 0 ≤ v ∧ v ≤ 1000000000000) (hs : ns.sum ≠ 0) : run pg D (d + 3) n_check_numbers [.tup (ns.map .int), .int ns.length] st = .ok .non st := by
  have e0 : decide ((ns.length : Int) < ns.length) = false := decide_eq_false (by omega)
  have e9 : decide (ns.sum = 0) = false := decide_eq_false hs
  rw [go_check_numbers]
  simp only [XS, XE, XT, XI, XG, XN, XB, XQ, XU, XJ, XL, XO, XP, XA, XK, XK2, XK3, XK4, XK5, XK6, XK7, XK9, XK10, XK11, Option.map_some, Option.bind_some, Bool.not_true, Bool.not_false, if_true, XR, XD, XW, XGS, XZ, XM, XIN, XN2, Nat.reduceLT, List.set_cons_zero, List.set_cons_succ, List.length_cons, List.length_nil, Nat.zero_add, Nat.reduceAdd, b_check_numbers, isi_tup, List.length_map, e0]
  refine exFor_atC (fun z => fnEnd false st (RS.seq z _) = _) (fun _ env s => s = st ∧ ∃ a b, env = [some (.tup (ns.map .int)), some (.int ns.length), a, b]) ⟨rfl, none, none, rfl⟩ ?_ ?_
  · rintro i t ht env s ⟨rfl, a, b, rfl⟩
    obtain ⟨x, hx, rfl⟩ := enum_at ht
    rw [List.getElem?_map, Option.map_eq_some_iff] at hx
    obtain ⟨m, hm, rfl⟩ := hx
    obtain ⟨hi, _⟩ := List.getElem?_eq_some_iff.mp hm
    have e1 : decide ((ns.length : Int) ≤ i) = false := decide_eq_false (by omega)
    refine ⟨_, rfl, [some (.tup (ns.map .int)), some (.int ns.length), some (.int ((0 + i : Nat) : Int)), some (.int m)], s, ?_, rfl, _, _, rfl⟩
    simp only [XS, XE, XT, XI, XG, XN, XB, XQ, XU, XJ, XL, XO, XP, XA, XK, XK2, XK3, XK4, XK5, XK6, XK7, XK9, XK10, XK11, Option.map_some, Option.bind_some, Bool.not_true, Bool.not_false, if_true, XR, XD, XW, XGS, XZ, XM, XIN, XN2, Nat.reduceLT, List.set_cons_zero, List.set_cons_succ, List.length_cons, List.length_nil, Nat.zero_add, Nat.reduceAdd, b_check_numbers_1, e1, s_is_share (h m (List.mem_of_getElem? hm))]
  · rintro env s ⟨rfl, a, b, rfl⟩
    simp only [XS, XE, XT, XI, XG, XN, XB, XQ, XU, XJ, XL, XO, XP, XA, XK, XK2, XK3, XK4, XK5, XK6, XK7, XK9, XK10, XK11, Option.map_some, Option.bind_some, Bool.not_true, Bool.not_false, if_true, XR, XD, XW, XGS, XZ, XM, XIN, XN2, Nat.reduceLT, List.set_cons_zero, List.set_cons_succ, List.length_cons, List.length_nil, Nat.zero_add, Nat.reduceAdd, bl_sumt, e9]
    exact end_nx0
theorem put_new {st : Sto} {fs : List Nat} {ts : List T} {f : Nat} {v : T} (h1 : f ∈ [0, 1, 2]) (h2 : ∀ g ∈ fs, g ∈ [0, 1, 2]) (h3 : fs.length < 1000) :
    fputT pg (st ++ [some (O.ins 0 fs ts)]) (.cell st.length) f v = some (st ++ [some (O.ins 0 (putFV f v fs ts).1 (putFV f v fs ts).2)]) := by
  have e1 := (XC st (some (O.ins 0 fs ts)) none none [] (O.ins 0 (putFV f v fs ts).1 (putFV f v fs ts).2)).1
  have e2 := (XC st (some (O.ins 0 fs ts)) none none [] (O.ins 0 (putFV f v fs ts).1 (putFV f v fs ts).2)).2.2.2.1
  simp only [fputT, e1]
  show (if f ∈ [0, 1, 2] ∧ (∀ g ∈ fs, g ∈ [0, 1, 2]) ∧ fs.length < 1000 then some (putO (st ++ [some (O.ins 0 fs ts)]) st.length (O.ins 0 (putFV f v fs ts).1 (putFV f v fs ts).2)) else none) = _
  rw [if_pos ⟨h1, h2, h3⟩, e2]
theorem put0 {st : Sto} {v : T} : fputT pg (st ++ [some (O.ins 0 [] [])]) (.cell st.length) 0 v = some (st ++ [some (O.ins 0 [0] [v])]) := put_new (by decide) (by decide) (by decide)
theorem put1 {st : Sto} {u v : T} : fputT pg (st ++ [some (O.ins 0 [0] [u])]) (.cell st.length) 1 v = some (st ++ [some (O.ins 0 [0, 1] [u, v])]) := put_new (by decide) (by decide) (by decide)
theorem put2 {st : Sto} {u v x : T} : fputT pg (st ++ [some (O.ins 0 [0, 1] [u, v])]) (.cell st.length) 2 x = some (st ++ [some (O.ins 0 [0, 1, 2] [u, v, x])]) := put_new (by decide) (by decide) (by decide)
theorem s_init {d : Nat} {st : Sto} {ms : List (List Nat)} {ns : List Int} (N : Names ms) (S : Shs ms ns) (hs : ns.sum ≠ 0) :
    run pg D (d + 4) n_Shares___init__ [.cell st.length, .tup (ms.map .str), .tup (ns.map .int)] (st ++ [some (O.ins 0 [] [])]) = .ok .non (st ++ [some (O.ins 0 [0, 1, 2] [.tup (ms.map .str), .tup (ns.map .int), .int ns.sum])]) := by
  have m4 := N.h4
  have e1 : (1 : Int) * 2 ^ (ms.length : Int).toNat = (ns.length : Int) := by
    rw [S.nl, Int.toNat_natCast, Int.one_mul]
    simp
  rw [go_Shares___init__]
  simp only [XS, XE, XT, XI, XG, XN, XB, XQ, XU, XJ, XL, XO, XP, XA, XK, XK2, XK3, XK4, XK5, XK6, XK7, XK9, XK10, XK11, Option.map_some, Option.bind_some, Bool.not_true, Bool.not_false, if_true, XR, XD, XW, XGS, XZ, XM, XIN, XN2, Nat.reduceLT, List.set_cons_zero, List.set_cons_succ, List.length_cons, List.length_nil, Nat.zero_add, Nat.reduceAdd, b_Shares___init__, s_check_marks N, s_check_numbers S.nb hs, List.length_map, b_shl (show (0 : Int) ≤ ms.length ∧ (ms.length : Int) ≤ 64 ∧ -mid < 1 ∧ 1 < mid from ⟨by omega, by omega, by decide, by decide⟩), e1, put0, put1, put2, bl_sumt]
  have hk : okDrop (st ++ [some (O.ins 0 [] [])]).length (st ++ [some (O.ins 0 [] [])]) (st ++ [some (O.ins 0 [0, 1, 2] [.tup (ms.map .str), .tup (ns.map .int), .int ns.sum])]) = true := by
    have := okDrop_put (st ++ [some (O.ins 0 [] [])]).length (O.ins 0 [0, 1, 2] [.tup (ms.map .str), .tup (ns.map .int), .int ns.sum]) [] (by
      simp only [O.lt]
      exact T.lts_mono (Nat.zero_le _) _ (by simp [T.lts, T.lt, pus_strs, pus_ints])) (st ++ [some (O.ins 0 [] [])]) st.length ⟨O.ins 0 [] [], by simp⟩
    rw [List.append_nil, (XC st (some (O.ins 0 [] [])) none none [] _).2.2.2.1] at this
    exact this
  have e2 := back_pure (t := .non) rfl hk
  show back false _ .non _ = _
  rw [e2, List.take_of_length_le (by simp)]
theorem s_mk {d : Nat} {st : Sto} {ms : List (List Nat)} {ns : List Int} (N : Names ms) (S : Shs ms ns) (hs : ns.sum ≠ 0) : instNew pg (run pg D (d + 4)) 0 [.tup (ms.map .str), .tup (ns.map .int)] st = .ok (shT ms ns) st := by
  unfold instNew
  obtain ⟨mz, hcl⟩ : ∃ mz, pg.cls 0 = some ⟨n_Shares___init__, mz, [f_marks, f_numbers, f_total], true⟩ := ⟨_, rfl⟩
  rw [hcl]
  dsimp only
  rw [s_init N S hs]
  have e1 := (XC st (some (O.ins 0 [0, 1, 2] [.tup (ms.map .str), .tup (ns.map .int), .int ns.sum])) none none [] (.lst [])).1
  have e2 : T.lts st.length [.tup (ms.map .str), .tup (ns.map .int), .int ns.sum] = true := T.lts_mono (Nat.zero_le _) _ (by simp [T.lts, T.lt, pus_strs, pus_ints])
  simp [e1, e2, okDrop_app, shT]
theorem name_ok {m : List Nat} (N : Name m) : m.all (fun c => decide (c < 1114112)) = true := by
  refine List.all_eq_true.mpr fun c hc => ?_
  have := N.hc c hc
  simp only [letters, List.mem_cons, List.not_mem_nil, or_false] at this
  exact decide_eq_true
          (by omega)
theorem ex_frz {F : Nat → List T → Sto → R T} {i n : Nat} {env : Mu.Env} {st : Sto} {ob : O} (h1 : getS i env = some (.cell n)) (h2 : cellO st n = some ob) (hn : ob.nt = true := by rfl) : ex pg F (.frz i) env st = .nx (env.set i (some ob.pure)) (st.set n none) := by
  show (match getS i env with
    | some (.cell n) => match cellO st n with
      | some ob => if ob.nt then RS.nx (env.set i (some ob.pure)) (st.set n none) else .bad
      | none => .bad
    | _ => .bad) = _
  rw [h1]
  dsimp only
  rw [h2]
  dsimp only
  rw [hn]
  rfl
/-- one sign's number -/
theorem int_sign {st : Sto} {c : Nat} (h : sgB c = true) : blT pg st .int [.str [c]] = some (.int ((c - 48 : Nat) : Int)) := by
  have hc : c = 48 ∨ c = 49 := by simpa [sgB] using h
  rcases hc with rfl | rfl <;> kernel_rfl
/-! weights -/
def wtT (w : Int × Int) : T := .tup [.int w.1, .int w.2]
def WtOk (u : T) : Prop := ∃ a b : Int, u = .tup [.int a, .int b] ∧ 0 ≤ a ∧ a < 4 ∧ 0 ≤ b ∧ b < 4
def TieOk (many : Nat) (u : T) : Prop := ∃ a b f : Int, u = .tup [.int a, .int b, .int f] ∧ 0 ≤ a ∧ a < many ∧ 0 ≤ b ∧ b < many ∧ 1 ≤ f ∧ f < 4
def keysN (many : Nat) : List Ky := (rowsN many).map Ky.s
theorem rows_nd {n : Nat} (hn : n ≤ 4) : (rowsN n).Nodup := by
  match n, hn with
  | 0, _ => decide
  | 1, _ => decide
  | 2, _ => decide
  | 3, _ => decide
  | 4, _ => decide
theorem rows_cnt {n : Nat} (hn : n ≤ 4) : (rowsN n).length = 2 ^ n := by
  match n, hn with
  | 0, _ => rfl
  | 1, _ => rfl
  | 2, _ => rfl
  | 3, _ => rfl
  | 4, _ => rfl
theorem rows_pos {n : Nat} (hn : n ≤ 4) : ∀ r ∈ rowsN n, (rowsN n)[valR r 0]? = some r := by
  match n, hn with
  | 0, _ => decide
  | 1, _ => decide
  | 2, _ => decide
  | 3, _ => decide
  | 4, _ => decide
theorem row_in : ∀ {n : Nat} {r : List Nat}, Row n r → r ∈ rowsN n
  | 0, r, h => by
    have := List.length_eq_zero_iff.mp h.1
    subst this
    exact List.mem_cons_self
  | n + 1, r, h => by
    have hne : r ≠ [] := fun e => by rw [e] at h; exact absurd h.1 (by simp)
    have e :=
            List.dropLast_concat_getLast hne
    have h1 : Row n r.dropLast := ⟨by rw [List.length_dropLast, h.1]; rfl, fun c hc => h.2 c (e ▸ List.mem_append_left _ hc)⟩
    have h2 : r.getLast hne = 48 ∨ r.getLast hne = 49 := by simpa [sgB] using h.2 _ (List.getLast_mem hne)
    refine List.mem_flatMap.mpr ⟨r.dropLast, row_in h1, ?_⟩
    rcases h2 with h2 | h2 <;> rw [h2] at e <;> rw [← e] <;> simp
/-- found by its key -/
theorem find_key : ∀ {xs : List (List Nat)} {ts : List T} {i : Nat} {x : List Nat}, xs.Nodup → xs[i]? = some x → findK (.s x) (xs.map Ky.s) ts = ts[i]?
  | [], ts, i, x, _, h => by simp at h
  | y :: xs, [], i, x, _, h => by simp [findK]
  | y :: xs, t :: ts, 0, x, _, h => by
    have : y = x := by simpa using h
    subst this
    simp [findK]
  | y :: xs, t :: ts, i + 1, x, hd, h => by
    have hm : x ∈ xs := List.mem_of_getElem? (by simpa using h)
    have hne : y ≠ x := fun e => (List.nodup_cons.mp hd).1 (e ▸ hm)
    have := find_key (ts := ts) (List.nodup_cons.mp hd).2 (show xs[i]? = some x by simpa using h)
    simp [findK, hne, this]
theorem key_at {many : Nat} {ns : List Int} {r : List Nat} (hm : many ≤ 4) (hn : ns.length = 2 ^ many) (hr : Row many r) : findK (.s r) (keysN many) (ns.map .int) = some (.int (numR ns r)) := by
  have h1 := rows_pos hm r (row_in hr)
  have h2 : valR r 0 < ns.length := by
    have := valR_lt (a := 0) hr.2
    rw [hr.1] at this
    omega
  unfold keysN
  rw [find_key (rows_nd hm) h1, List.getElem?_map, List.getElem?_eq_getElem h2]
  simp only [Option.map_some, numR, List.getElem?_eq_getElem h2, Option.getD_some]
/-- the numbers, row by row -/
theorem nums_rows {many : Nat} {ns : List Int} (hm : many ≤ 4) (hn : ns.length = 2 ^ many) : (rowsN many).map (numR ns) = ns := by
  have hl := rows_cnt hm
  refine List.ext_getElem (by rw [List.length_map, hl, hn]) fun i h1 h2 => ?_
  rw [List.length_map] at h1
  rw [List.getElem_map]
  have h3 := rows_pos hm _ (List.getElem_mem h1)
  have h4 : valR (rowsN many)[i] 0 = i := by
    obtain ⟨h5, h6⟩ := List.getElem?_eq_some_iff.mp h3
    by_cases h : valR (rowsN many)[i] 0 = i
    · exact h
    · rcases Nat.lt_or_gt_of_ne h with h | h
      · exact absurd h6 (List.pairwise_iff_getElem.mp (rows_nd hm) _ _ h5 h1 h)
      · exact absurd h6.symm (List.pairwise_iff_getElem.mp (rows_nd hm) _ _ h1 h5 h)
  unfold numR
  rw [h4, List.getElem?_eq_getElem h2]
  rfl
theorem put_fresh {xs : List (List Nat)} {ts : List T} {x : List Nat} {v : T} (h : x ∉ xs) : putKy (.s x) v (xs.map Ky.s) ts = ((xs ++ [x]).map Ky.s, ts ++ [v]) := by
  unfold putKy
  rw [if_neg fun hm => ?_, List.map_append]
  · rfl
  · obtain ⟨y, hy, e⟩ := List.mem_map.mp hm
    exact h ((Ky.s.inj e) ▸ hy)
theorem repl_ints {v : Int} : ∀ {xs : List (List Nat)} {ns : List Int} {x : List Nat}, x ∈ xs → xs.length = ns.length →
    ∃ ns' : List Int, replKy (.s x) (.int v) (xs.map Ky.s) (ns.map .int) = ns'.map .int ∧ ns'.length = ns.length ∧ (∀ u ∈ ns', u ∈ ns ∨ u = v) ∧ v ∈ ns'
  | [], _, x, h, _ => by cases h
  | y :: xs, [], x, h, hl => by simp at hl
  | y :: xs, n :: ns, x, h, hl => by
    have hl' : xs.length = ns.length := by simpa using hl
    by_cases hx : x ∈ xs
    · obtain ⟨ns', e, l, b, m⟩ := repl_ints (v := v) hx hl'
      refine ⟨(if Ky.s y = Ky.s x then v else n) :: ns', ?_, by simp [l], fun u hu => ?_, List.mem_cons_of_mem _ m⟩
      · rw [List.map_cons, List.map_cons, List.map_cons]
        show (if Ky.s y = Ky.s x then T.int v else T.int n) :: replKy (.s x) (.int v) (xs.map Ky.s) (ns.map .int) = _
        rw [e]
        congr 1
        split <;> rfl
      · rcases List.mem_cons.mp hu with hu | hu
        · rw [hu]
          split
          · exact .inr rfl
          · exact .inl List.mem_cons_self
        · rcases b u hu with hb | hb
          · exact .inl (List.mem_cons_of_mem _ hb)
          · exact .inr hb
    · have hy : y = x := by
        rcases List.mem_cons.mp
                h with e | e
        · exact e.symm
        · exact absurd e hx
      have hrest : ∀ {zs : List (List Nat)} {ms : List Int}, x ∉ zs → zs.length = ms.length → replKy (.s x) (.int v) (zs.map Ky.s) (ms.map .int) = ms.map .int := by
        intro zs
        induction zs with
        | nil => intro ms _ hz; cases ms with
          | nil => rfl
          | cons _ _ => simp at hz
        | cons z zs ih => intro ms hn hz; cases ms with
          | nil => simp at hz
          | cons m ms =>
            have h1 : z ≠ x := fun e => hn (by rw [e]; exact List.mem_cons_self)
            have h2 := ih (ms := ms) (fun e => hn (List.mem_cons_of_mem _ e)) (by simpa using hz)
            rw [List.map_cons,
                    List.map_cons]
            show (if Ky.s z = Ky.s x then T.int v else T.int m) :: replKy (.s x) (.int v) (zs.map Ky.s) (ms.map .int) = _
            rw [h2, if_neg fun e => h1 (Ky.s.inj e)]
      refine ⟨v :: ns, ?_, by simp, fun u hu => ?_, List.mem_cons_self⟩
      · rw [List.map_cons, List.map_cons]
        show (if Ky.s y = Ky.s x then T.int v else T.int n) :: replKy (.s x) (.int v) (xs.map Ky.s) (ns.map .int) = _
        rw [hrest hx hl', if_pos (by rw [hy]), List.map_cons]
      · rcases List.mem_cons.mp hu with hu | hu
        · exact .inr hu
        · exact .inl (List.mem_cons_of_mem _ hu)
theorem put_key {many : Nat} {ns : List Int} {r : List Nat} {v : Int} (hm : many ≤ 4) (hn : ns.length = 2 ^ many) (hr : Row many r) :
    ∃ ns' : List Int, putKy (.s r) (.int v) (keysN many) (ns.map .int) = (keysN many, ns'.map .int) ∧ ns'.length = 2 ^ many ∧ (∀ u ∈ ns', u ∈ ns ∨ u = v) ∧ v ∈ ns' := by
  obtain ⟨ns', e, l, b, m⟩ := repl_ints (v := v) (row_in hr) (by rw [rows_cnt hm, hn])
  refine ⟨ns', ?_, by rw [l, hn], b, m⟩
  unfold putKy
  rw [if_pos (show Ky.s r ∈ keysN many from List.mem_map.mpr ⟨r, row_in hr, rfl⟩)]
  exact congrArg _ e
theorem sum_ge : ∀ {ns : List Int}, (∀ v ∈ ns, 0 ≤ v) → 0 ≤ ns.sum ∧ ∀ v ∈ ns, v ≤ ns.sum
  | [], _ => ⟨by decide, fun v hv => by cases hv⟩
  | n :: ns, h => by
    obtain ⟨h1, h2⟩ := sum_ge (ns := ns) fun v hv => h v (List.mem_cons_of_mem _ hv)
    have h0 := h n List.mem_cons_self
    rw [List.sum_cons]
    refine ⟨by omega, fun v hv => ?_⟩
    rcases List.mem_cons.mp hv with hv | hv
    · omega
    · have := h2 v hv
      omega
/-! the fitted table -/
theorem pu_wts {us : List T} (h : ∀ u ∈ us, WtOk u) : Pus us := lts_all fun u hu => by
  obtain ⟨a, b, rfl, _⟩ := h u hu
  rfl
theorem pu_ties {many : Nat} {us : List T} (h : ∀ u ∈ us, TieOk many u) : Pus us := lts_all fun u hu => by
  obtain ⟨a, b, f, rfl, _⟩ := h u hu
  rfl
/-- the table's cell, beside what the jar has become -/
def TB (st : Sto) (n many k : Nat) (s : Sto) (ns : List Int) : Prop := ∃ st2 l, s = st2 ++ l ∧ Jgo n st st2 ∧ st.length ≤ k ∧ s[k]? = some (some (O.dic (keysN many) (ns.map .int)))
def NB (many : Nat) (ns : List Int) : Prop := ns.length = 2 ^ many ∧ ∀ v ∈ ns, 0 ≤ v ∧ v ≤ 1000000000000
theorem TB.jar {st : Sto} {n many k : Nat} {s : Sto} {ns : List Int} (t : TB st n many k s ns) (h : HasJ st n) : HasJ s n := by
  obtain ⟨st2, l, rfl, g, _, _⟩ := t
  exact (h.go g).app
theorem TB.cell {st : Sto} {n many k : Nat} {s : Sto} {ns : List Int} (t : TB st n many k s ns) : cellO s k = some (.dic (keysN many) (ns.map .int)) := by
  obtain ⟨st2, l, rfl, g, _, e⟩ := t
  exact cell_at e
theorem TB.draw {st : Sto} {n many k : Nat} {s s' : Sto} {ns : List Int} (t : TB st n many k s ns) (h : HasJ st n) (g' : Jgo n s s') : TB st n many k s' ns := by
  obtain ⟨st2, l, rfl, g, hk, e⟩ := t
  have hn : n ≠ k := by
    have := h.lt
    omega
  obtain ⟨st3, rfl, g3⟩ := Jgo.app (h.go g) g'
  refine ⟨st3, l, rfl, g.trans g3, hk, ?_⟩
  obtain ⟨j, ok, e2⟩ := g'
  rw [e2]
  unfold putO
  rw [List.getElem?_set_ne hn]
  exact e
theorem TB.put {st : Sto} {n many k : Nat} {s : Sto} {ns : List Int} {r : List Nat} {v : Int} (t : TB st n many k s ns) (hm : many ≤ 4) (hb : NB many ns) (hr : Row many r) (hv : 0 ≤ v ∧ v ≤ 1000000000000) :
    ∃ s' ns', putT s (.cell k) (.str r) (.int v) = some s' ∧ TB st n many k s' ns' ∧ NB many ns' ∧ v ∈ ns' := by
  obtain ⟨ns', e, l', b, m⟩ := put_key (v := v) hm hb.1 hr
  have hk16 : (keysN many).length < big := by
    unfold keysN
    rw [List.length_map]
    exact Nat.lt_of_le_of_lt (rows_len hm) (by decide)
  have hp := put_dcell (v := .int v) (cs := r) t.cell hk16
  rw [e] at hp
  obtain ⟨st2, l, rfl, g, hk, e2⟩ := t
  refine ⟨_, ns', hp, ⟨st2, l.set (k - st2.length) (some (O.dic (keysN many) (ns'.map .int))), ?_, g, hk, get_put e2⟩, ⟨l', fun u hu => ?_⟩, m⟩
  · unfold putO
    rw [List.set_append_right _ _ (by rw [g.len]; exact hk)]
  · rcases b u hu with h | h
    · exact hb.2 u h
    · rw [h]; exact hv
theorem okDrop_jar {st st2 l : Sto} {n : Nat} (h : HasJ st n) (g : Jgo n st st2) : okDrop st.length st (st2 ++ l) = true := by
  obtain ⟨j, ok, rfl⟩ := g
  obtain ⟨j0, _, e⟩ := h
  exact okDrop_put _ _ _ (by simp [Jar.o, O.lt, T.lts, T.lt]) _ _ ⟨_, e⟩
def TabRes (st : Sto) (n many : Nat) (r : RS) : Prop := ∃ (st' : Sto) (ns : List Int), fnEnd false st r = .ok (.dic (keysN many) (ns.map .int)) st' ∧ Jgo n st st' ∧ NB many ns ∧ ns.sum ≠ 0
theorem TB.fin {st : Sto} {n many k : Nat} {s : Sto} {ns : List Int} (t : TB st n many k s ns) (h : HasJ st n) (hb : NB many ns) (hs : ns.sum ≠ 0) : TabRes st n many (.rt (.cell k) s) := by
  have hc := t.cell
  obtain ⟨st2, l, rfl, g, hk, e⟩ := t
  refine ⟨st2, ns, ?_, g, hb, hs⟩
  show back false st (.cell k) (st2 ++ l) = _
  have hp : (T.dic (keysN many) (ns.map .int)).lt st.length = true := T.lt_mono (Nat.zero_le _) _ (by simp [T.lt, pus_ints])
  unfold back
  simp only [Bool.false_eq_true, if_false, Nat.not_lt.mpr hk, hc, O.pure, O.nt, hp, okDrop_jar h g, Bool.and_self, if_true]
  rw [List.take_left' g.len]
theorem sorted_keys {st : Sto} {many : Nat} {ns : List Int} (hm : many ≤ 4) : blT pg st .sorted [.dic (keysN many) (ns.map .int)] = some (.lst ((rowsN many).map .str)) := by
  match many, hm with
  | 0, _ => kernel_rfl
  | 1, _ => kernel_rfl
  | 2, _ => kernel_rfl
  | 3, _ => kernel_rfl
  | 4, _ => kernel_rfl
def dif (x y : List Nat) (k : Nat) : Bool := !decide ([y[k]?.getD 0] = [x[k]?.getD 0])
def unl (x y : List Nat) : Nat := ((List.range y.length).filter (dif x y)).length
def qL (ns : List Int) (x y : List Nat) : Bool := decide (1 < unl x y) && against ns x y
theorem unl4 {x y : List Nat} {n : Nat} (hy : y.length = n) : unl x y ≤ n := by
  have := List.length_filter_le (dif x y) (List.range y.length)
  rw [List.length_range] at this
  unfold unl
  omega
def inner (many : Nat) (ns : List Int) (k : Nat) : Option (List Nat × List Nat) := ((((rowsN many).drop (k + 1)).find? (qL ns ((rowsN many)[k]?.getD []))).map fun y => ((rowsN many)[k]?.getD [], y))
def lawDue (many : Nat) (ns : List Int) : Option (List Nat × List Nat) := (List.range (rowsN many).length).findSome? (inner many ns)
theorem findSome_congr {α β : Type} {f g : α → Option β} : ∀ {l : List α}, (∀ x ∈ l, f x = g x) → l.findSome? f = l.findSome? g
  | [], _ => rfl
  | x :: l, h => by
    rw [List.findSome?_cons, List.findSome?_cons, h x List.mem_cons_self, findSome_congr fun y hy => h y (List.mem_cons_of_mem _ hy)]
theorem find_congr {α : Type} {f g : α → Bool} : ∀ {l : List α}, (∀ x ∈ l, f x = g x) → l.find? f = l.find? g
  | [], _ => rfl
  | x :: l, h => by
    rw [List.find?_cons, List.find?_cons, h x List.mem_cons_self, find_congr fun y hy => h y (List.mem_cons_of_mem _ hy)]
theorem findSome_range {β : Type} {g : List Nat → Option β} (xs : List (List Nat)) : xs.findSome? g = (List.range xs.length).findSome? fun k => g (xs[k]?.getD []) := by
  have e : xs = (List.range xs.length).map fun k => xs[k]?.getD [] := by
    refine List.ext_getElem
            (by simp) fun i h1 h2 => ?_
    simp [List.getElem?_eq_getElem h1]
  conv => lhs; rw [e]
  rw [List.findSome?_map]
  rfl
def finOk (n : Nat) : Prop := ∀ k ∈ List.range (rowsN n).length, (∀ y ∈ (rowsN n).take (k + 1), crossP ((rowsN n)[k]?.getD []) y = false) ∧
  (∀ y ∈ (rowsN n).drop (k + 1), (crossP ((rowsN n)[k]?.getD []) y = decide (1 < unl ((rowsN n)[k]?.getD []) y)) ∨
    (crossP ((rowsN n)[k]?.getD []) y = false ∧ ((orS ((rowsN n)[k]?.getD []) y = (rowsN n)[k]?.getD [] ∧ andS ((rowsN n)[k]?.getD []) y = y) ∨ (orS ((rowsN n)[k]?.getD []) y = y ∧ andS ((rowsN n)[k]?.getD []) y = (rowsN n)[k]?.getD []))))
theorem fin_ok {n : Nat} (hn : n ≤ 4) : finOk n := by
  unfold finOk
  match n, hn with
  | 0, _ => decide +kernel
  | 1, _ => decide +kernel
  | 2, _ => decide +kernel
  | 3, _ => decide +kernel
  | 4, _ => decide +kernel
theorem due_eq {many : Nat} {ns : List Int} (hm : many ≤ 4) : lawDue many ns = dueP many ns := by
  unfold lawDue dueP crossN
  rw [List.find?_flatMap, findSome_range]
  refine findSome_congr fun k hk => ?_
  obtain ⟨h1, h2⟩ := fin_ok hm k hk
  unfold inner
  generalize (rowsN many)[k]?.getD [] = x at h1 h2 ⊢
  rw [List.find?_map, List.find?_filter]
  have e : ((rowsN many).find? fun y => decide (crossP x y = true ∧ ((fun p : List Nat × List Nat => against ns p.1 p.2) ∘ fun y => (x, y)) y = true)) = ((rowsN many).drop (k + 1)).find? (qL ns x) := by
    conv => lhs; rw [← List.take_append_drop (k + 1) (rowsN many)]
    rw [List.find?_append, List.find?_eq_none.mpr fun y hy => by rw [h1 y hy]; simp, Option.none_or]
    refine find_congr fun y hy => ?_
    unfold qL
    rcases h2 y hy with h | ⟨h, h⟩
    · rw [← h]
      cases crossP x y <;> simp
    · have ha : against ns x y = false := by
        unfold against
        rcases h with ⟨a, b⟩ | ⟨a, b⟩
        · rw [a, b]; exact decide_eq_false (Int.lt_irrefl _)
        · rw [a, b, Int.mul_comm]; exact decide_eq_false (Int.lt_irrefl _)
      simp [ha]
  rw [← e]
theorem bl_repr1 {st : Sto} {t : T} (h : reprOk t = true) : blT pg st .repr [t] = some (.str (shC t)) := if_pos h
theorem clk1 {F : Nat → List T → Sto → R T} {f : Nat} {t : T} {a : X} {st : Sto} : (if (decide (1 = (Xs.cons a Xs.nil).len) && [0].all fun i => decide (i < 1)) = true then F f (List.map (fun i => [t].getD i T.non) [0]) st else R.bad) = F f [t] st := rfl
theorem due_one {ns : List Int} : dueP 1 ns = none := rfl
theorem due_row {many : Nat} {ns : List Int} {p : List Nat × List Nat} (h : dueP many ns = some p) : Row many p.1 ∧ Row many p.2 := cross_row (List.mem_of_find?_eq_some h)
theorem repr_due {many : Nat} {ns : List Int} (hm : many ≤ 4) : reprOk (.lst [optT (dueP many ns), optT (dueP many ns)]) = true := by
  cases h : dueP many ns with
  | none => rfl
  | some p =>
    obtain ⟨h1, h2⟩ := due_row h
    have e1 := row_ok h1
    have e2 := row_ok h2
    have l1 := h1.1
    have l2 := h2.1
    simp only [optT, prT, reprOk, T.dat, T.dats, e1, e2, T.okR, T.okRs, T.wgt, T.wgts, Bool.and_self, Bool.true_and, Bool.and_true, decide_eq_true_eq]
    omega
theorem all_true {st : Sto} {us : List T} (h : ∀ u ∈ us, u = .bl true) : blT pg st .all [.lst us] = some (.bl true) := by
  have e : us = us.map fun u => T.bl ((fun _ => true) u) := by
    refine List.ext_getElem
            (by simp) fun i h1 h2 => ?_
    rw [List.getElem_map]
    exact h _ (List.getElem_mem h1)
  rw [e, all_map]
  simp
def deep : Nat := 20
/-! family A: the bag, drawings, rows, marks -/
theorem a_draw {d n : Nat} {st : Sto} {s : Int} (h : HasJ st n) (hs : 0 < s) (hs' : s < 2 ^ 60) :
    ∃ k st', run pg D (d + 1) n__law_draw [.cell n, .int s] st = .ok (.int k) st' ∧ Jgo n st st' ∧ 0 ≤ k ∧ k < s := by
  obtain ⟨j, ok, e⟩ := id h
  have h0 : ∀ o, cellO (putO st n o) n = some o := fun o => cell_at (get_put e)
  have hc : cellO st n = some (.lst [.int j.a, .int j.b, .int j.c]) := cell_at e
  have hs2 : 0 < s ∧ s < 2 ^ 2000 := ⟨hs, by omega⟩
  obtain ⟨ok1, ok2, ok3⟩ := ok
  rw [go__law_draw]
  by_cases hp : 0 < j.a
  · have ok' : Jar.ok ⟨j.a / s, j.b, j.c + 1⟩ := ⟨Int.ediv_nonneg ok1 (Int.le_of_lt hs), ok2, by show 0 ≤ j.c + 1; omega⟩
    have g : Jgo n st (putO st n (Jar.o ⟨j.a / s, j.b, j.c + 1⟩)) := ⟨_, ok', rfl⟩
    refine ⟨j.a % s, _, ?_, g, Int.emod_nonneg _ (by omega), Int.emod_lt_of_pos _ hs⟩
    simp only [XS, XE, XT, XI, XG, XN, XB, XQ, XU, XJ, XL, XO, XP, XA, XK, XK2, XK3, XK4, XK5, XK6, XK7, XK9, XK10, XK11, Option.map_some, Option.bind_some, Bool.not_true, Bool.not_false, if_true, XR, XD, XW, XGS, XZ, XM, XIN, XN2, Nat.reduceLT, List.set_cons_zero, List.set_cons_succ, List.length_cons, List.length_nil, Nat.zero_add, Nat.reduceAdd, b__law_draw, ix_cell hc, ix_cell (h0 _), put_cell hc, put_cell (h0 _), put_put, b_mod hs, b_fdiv hs2, hp, decide_true]
    refine end_j0 h g ?_
    rfl
  · have m1 : mulOk 65003 (j.c + 1) = true := mul_l (by decide)
    have tb : -mid < (j.b + 65003 * (j.c + 1)) % 60013 + 49003 ∧ (j.b + 65003 * (j.c + 1)) % 60013 + 49003 < mid := by
      have a := Int.emod_nonneg (j.b + 65003 * (j.c + 1)) (show (60013 : Int) ≠ 0 by decide)
      have b := Int.emod_lt_of_pos (j.b + 65003 * (j.c + 1)) (show (0 : Int) < 60013 by decide)
      have c : (-mid : Int) < 0 ∧ (200000 : Int) < mid := by decide
      omega
    have m2 : mulOk (j.b + 65003 * (j.c + 1)) ((j.b + 65003 * (j.c + 1)) % 60013 + 49003) = true := mul_r tb
    have m3 : mulOk 11 (j.c + 1) = true := mul_l (by decide)
    have ok' : Jar.ok ⟨j.a, ((j.b + 65003 * (j.c + 1)) * ((j.b + 65003 * (j.c + 1)) % 60013 + 49003) + 11 * (j.c + 1) + 19) % 2147483549, j.c + 1⟩ := ⟨ok1, Int.emod_nonneg _ (by decide), by show 0 ≤ j.c + 1; omega⟩
    have g : Jgo n st (putO st n (Jar.o ⟨j.a, ((j.b + 65003 * (j.c + 1)) * ((j.b + 65003 * (j.c + 1)) % 60013 + 49003) + 11 * (j.c + 1) + 19) % 2147483549, j.c + 1⟩)) := ⟨_, ok', rfl⟩
    refine ⟨((j.b + 65003 * (j.c + 1)) * ((j.b + 65003 * (j.c + 1)) % 60013 + 49003) + 11 * (j.c + 1) + 19) % 2147483549 / 509 % s, _, ?_, g, Int.emod_nonneg _ (by omega), Int.emod_lt_of_pos _ hs⟩
    simp only [XS, XE, XT, XI, XG, XN, XB, XQ, XU, XJ, XL, XO, XP, XA, XK, XK2, XK3, XK4, XK5, XK6, XK7, XK9, XK10, XK11, Option.map_some, Option.bind_some, Bool.not_true, Bool.not_false, if_true, XR, XD, XW, XGS, XZ, XM, XIN, XN2, Nat.reduceLT, List.set_cons_zero, List.set_cons_succ, List.length_cons, List.length_nil, Nat.zero_add, Nat.reduceAdd, b__law_draw, ix_cell hc, ix_cell (h0 _), put_cell hc, put_cell (h0 _), put_put, hp, decide_false, b_mul m1, b_mul m2, b_mul m3, b_mod hs, b_mod (show (0 : Int) < 60013 by decide), b_mod (show (0 : Int) < 2147483549 by decide), b_fdiv (show (0 : Int) < 509 ∧ (509 : Int) < 2 ^ 2000 by decide)]
    refine end_j0 h g ?_
    rfl
theorem a_one {d n : Nat} {st : Sto} {ts : List T} (h : HasJ st n) (hp : Pus ts) (h1 : 0 < ts.length) (h2 : ts.length < 2 ^ 40) :
    ∃ t st', run pg D (d + 2) n__law_one [.cell n, .lst ts] st = .ok t st' ∧ Jgo n st st' ∧ t ∈ ts := by
  obtain ⟨k, st', e, g, k0, k1⟩ := a_draw (d := d) (s := (ts.length : Int)) h (by omega) (by omega)
  obtain ⟨t, et, mt⟩ := at_int k0 k1
  refine ⟨t, st', ?_, g, mt⟩
  rw [go__law_one]
  simp only [XS, XE, XT, XI, XG, XN, XB, XQ, XU, XJ, XL, XO, XP, XA, XK, XK2, XK3, XK4, XK5, XK6, XK7, XK9, XK10, XK11, Option.map_some, Option.bind_some, Bool.not_true, Bool.not_false, if_true, XR, XD, XW, XGS, XZ, XM, XIN, XN2, Nat.reduceLT, List.set_cons_zero, List.set_cons_succ, List.length_cons, List.length_nil, Nat.zero_add, Nat.reduceAdd, b__law_one, e, et]
  exact end_j0 h g (lts_mem hp t mt)
theorem a_onet {d n : Nat} {st : Sto} {ts : List T} (h : HasJ st n) (hp : Pus ts) (h1 : 0 < ts.length) (h2 : ts.length < 2 ^ 40) :
    ∃ t st', run pg D (d + 2) n__law_one [.cell n, .tup ts] st = .ok t st' ∧ Jgo n st st' ∧ t ∈ ts := by
  obtain ⟨k, st', e, g, k0, k1⟩ := a_draw (d := d) (s := (ts.length : Int)) h (by omega) (by omega)
  obtain ⟨t, et, mt⟩ := at_int k0 k1
  refine ⟨t, st', ?_, g, mt⟩
  rw [go__law_one]
  simp only [XS, XE, XT, XI, XG, XN, XB, XQ, XU, XJ, XL, XO, XP, XA, XK, XK2, XK3, XK4, XK5, XK6, XK7, XK9, XK10, XK11, Option.map_some, Option.bind_some, Bool.not_true, Bool.not_false, if_true, XR, XD, XW, XGS, XZ, XM, XIN, XN2, Nat.reduceLT, List.set_cons_zero, List.set_cons_succ, List.length_cons, List.length_nil, Nat.zero_add, Nat.reduceAdd, b__law_one, e, et]
  exact end_j0 h g (lts_mem hp t mt)
theorem a_rows {d : Nat} {st : Sto} {n : Nat} (hn : n ≤ 4) : run pg D (d + 1) n__law_rows [.int n] st = .ok (.lst ((rowsN n).map .str)) st := by
  have e : exs pg (run pg D d) b__law_rows [some (.int n), none, none, none, none] st = .rt (.lst ((rowsN n).map .str)) st := by
    match n, hn with
    | 0, _ => kernel_rfl
    | 1, _ => kernel_rfl
    | 2, _ => kernel_rfl
    | 3, _ => kernel_rfl
    | 4, _ => kernel_rfl
  rw [go__law_rows, e]
  exact end_rt0 (pus_strs _)
/-- a comprehension whose items are drawn: what came so far and the store -/
theorem compGo_acc {g : G} {own : List Nat} {env : Mu.Env} {cond : Mu.Env → Sto → R Bool} {elt : Mu.Env → Sto → R T} (I : List T → Sto → Prop) (m : Nat) (h : ∀ (t : T) (pre : List T) (st : Sto), pre.length < m → I pre st → ∃ e, bindG g t (wipeE env own) = some e ∧ cond e st = .ok true st ∧ ∃ u st', elt e st = .ok u st' ∧ I (pre ++ [u]) st') :
    ∀ {ts pre : List T} {st : Sto}, ts.length + pre.length = m → I pre st → ∃ us st', compGo g own env cond elt ts st = .ok us st' ∧ us.length = ts.length ∧ I (pre ++ us) st'
  | [], pre, st, _, i => ⟨[], st, rfl, rfl, by rw [List.append_nil]; exact i⟩
  | t :: ts, pre, st, hm, i => by
    rw [List.length_cons] at hm
    obtain ⟨e, h1, h2, u, st1, h3, i1⟩ := h t pre st (by omega) i
    obtain ⟨us, st2, h4, h5, i2⟩ := compGo_acc (g := g) (own := own) (env := env) (cond := cond) (elt := elt) I m h (ts := ts) (by rw [List.length_append]; simp; omega) i1
    refine ⟨u :: us, st2, ?_, by rw [List.length_cons, List.length_cons, h5], by rw [List.append_assoc] at i2; exact i2⟩
    unfold compGo
    rw [h1]
    dsimp only
    rw [h2]
    dsimp only
    rw [h3]
    dsimp only
    rw [h4]
theorem map_erase {α β : Type} (f : α → β) : ∀ (l : List α) (i : Nat), (l.map f).eraseIdx i = (l.eraseIdx i).map f
  | [], _ => rfl
  | _ :: _, 0 => rfl
  | x :: l, i + 1 => by
    show f x :: (l.map f).eraseIdx i = f x :: (l.eraseIdx i).map f
    rw [map_erase f l i]
theorem erase_perm {α : Type} : ∀ {l : List α} {i : Nat} (h : i < l.length), (l[i] :: l.eraseIdx i).Perm l
  | x :: l, 0, _ => List.Perm.refl _
  | x :: l, i + 1, h => (List.Perm.swap x _ _).trans (List.Perm.cons x (erase_perm (Nat.lt_of_succ_lt_succ h)))
/-! marks from the pool -/
def poolA : List (List Nat) := [[97], [98], [99], [97, 98], [108, 97, 109, 112], [109, 97, 114, 107, 115], [110, 111, 110, 97], [120], [97, 98, 99, 100, 101, 102, 103, 104], [97, 97], [122], [107, 105, 110, 100], [121], [98, 97]]
theorem rcv_cellP {st : Sto} {n : Nat} {ts : List T} (h : cellO st n = some (.lst ts)) : rcv st .popAt (.cell n) = true := by simp [rcv, lstOf, h]
theorem pop_cell {st : Sto} {n : Nat} {ts : List T} {i : Int} {t : T} (h : cellO st n = some (.lst ts)) (ht : atT ts i = some t) : mtT st .popAt (.cell n) [.int i] = .ok t (putO st n (.lst (ts.eraseIdx (ixJ ts.length i)))) := by
  simp [mtT, h, ht]
theorem len_cellA {st : Sto} {n : Nat} {ts : List T} (h : cellO st n = some (.lst ts)) : blT pg st .len [.cell n] = some (.int ts.length) := by
  show lenT st [.cell n] = _
  simp [lenT, lstOf, h]
theorem a_cell_top {sb : Sto} {o : O} : cellO (sb ++ [some o]) sb.length = some o := (XC sb (some o) none none [] o).1
theorem a_put_top {sb : Sto} {o o' : O} : putO (sb ++ [some o]) sb.length o' = sb ++ [some o'] := (XC sb (some o) none none [] o').2.2.2.1
theorem a_marks {d n m : Nat} {st : Sto} (h : HasJ st n) (hm : m ≤ 5) : ∃ (ms : List (List Nat)) (st' : Sto), run pg D (d + 2) n__law_marks [.cell n, .int m] st = .ok (.tup (ms.map .str)) st' ∧ Jgo n st st' ∧ ms.length = m ∧ ms.Nodup ∧ ∀ x ∈ ms, x ∈ poolA := by
  have hlt := h.lt
  have key := compGo_acc (g := .nm 3) (own := [3]) (env := [some (.cell n), some (.int m), some (.cell st.length), none]) (cond := evA pg (run pg D (d + 1)) .nil)
    (elt := ev pg (run pg D (d + 1)) (.mt .popAt (.v 2) (.cons (.cl n__law_draw (.cons (.v 0) (.cons (.bl .len (.cons (.v 2) .nil)) .nil))) .nil)))
    (fun pre s => ∃ st1 pool, s = st1 ++ [some (O.lst (pool.map .str))] ∧ Jgo n st st1 ∧ ∃ ms : List (List Nat), pre = ms.map .str ∧ (ms ++ pool).Perm poolA) m (by
      rintro t pre s hp ⟨st1, pool, rfl, g, ms, rfl, pm⟩
      have hj : HasJ (st1 ++ [some (O.lst (pool.map T.str))]) n := (h.go g).app
      have hl1 : st.length = st1.length := g.len.symm
      have hc : cellO (st1 ++ [some (O.lst (pool.map T.str))]) st.length = some (.lst (pool.map .str)) := by rw [hl1]; exact a_cell_top
      have hpl := pm.length_eq
      rw [List.length_append] at hpl
      rw [List.length_map] at hp
      have h14 : poolA.length = 14 := rfl
      obtain ⟨k, s2, e1, g1, k0, k1⟩ := a_draw (d := d) (s := (pool.length : Int)) hj (by omega) (by omega)
      obtain ⟨st2, rfl, g2⟩ := Jgo.app (h.go g) g1
      obtain ⟨j, rfl⟩ := Int.eq_ofNat_of_zero_le k0
      have hjl : j < pool.length := by omega
      have hl2 : st.length = st2.length := by rw [hl1]; exact g2.len.symm
      have hc2 : cellO (st2 ++ [some (O.lst (pool.map T.str))]) st.length = some (.lst (pool.map .str)) := by rw [hl2]; exact a_cell_top
      have hat : atT (pool.map T.str) (j : Int) = some (.str pool[j]) := by rw [at_nat, List.getElem?_map, List.getElem?_eq_getElem hjl]; rfl
      have hij : ixJ (pool.map T.str).length (j : Int) = j := by unfold ixJ; rw [if_pos (by omega)]; rfl
      have hpt : putO (st2 ++ [some (O.lst (pool.map T.str))]) st.length (.lst ((pool.map T.str).eraseIdx j)) = st2 ++ [some (O.lst ((pool.eraseIdx j).map T.str))] := by
        rw [hl2, a_put_top, map_erase]
      have hpop := pop_cell hc2 hat
      rw [hij, hpt] at hpop
      refine ⟨_, rfl, rfl, .str pool[j], st2 ++ [some (O.lst ((pool.eraseIdx j).map T.str))], ?_, st2, pool.eraseIdx j, rfl, g.trans g2, ms ++ [pool[j]], by simp, ?_⟩
      · simp only [XS, XE, XT, XI, XG, XN, XB, XQ, XU, XJ, XL, XO, XP, XA, XK, XK2, XK3, XK4, XK5, XK6, XK7, XK9, XK10, XK11, Option.map_some, Option.bind_some, Bool.not_true, Bool.not_false, if_true, XR, XD, XW, XGS, XZ, XM, XIN, XN2, Nat.reduceLT, List.set_cons_zero, List.set_cons_succ, List.length_cons, List.length_nil, Nat.zero_add, Nat.reduceAdd, rcv_cellP hc, len_cellA hc, List.length_map, e1, hpop]
      · refine List.Perm.trans ?_ pm
        rw [List.append_assoc]
        exact List.Perm.append_left ms (erase_perm hjl))
    (ts := (List.range m).map fun (k : Nat) => T.int k) (pre := []) (st := st ++ [some (O.lst (poolA.map T.str))]) (by simp) ⟨st, poolA, rfl, Jgo.refl h, [], rfl, by simp⟩
  obtain ⟨us, s', e, hl, st1, pool, rfl, g, ms, hu, pm⟩ := key
  rw [List.nil_append] at hu
  subst hu
  rw [List.length_map, List.length_map, List.length_range] at hl
  have nd : (ms ++ pool).Nodup := pm.nodup_iff.mpr (by decide +kernel)
  refine ⟨ms, st1, ?_, g, hl, (List.nodup_append.mp nd).1, fun x hx => pm.subset (List.mem_append_left _ hx)⟩
  have e0 : st ++ [some (O.lst (poolA.map T.str))] = st ++ [some (O.lst [.str [97], .str [98], .str [99], .str [97, 98], .str [108, 97, 109, 112], .str [109, 97, 114, 107, 115], .str [110, 111, 110, 97], .str [120], .str [97, 98, 99, 100, 101, 102, 103, 104], .str [97, 97], .str [122], .str [107, 105, 110, 100], .str [121], .str [98, 97]])] := rfl
  rw [e0] at e
  rw [go__law_marks]
  have hb14 : 14 ≤ big := by decide
  simp only [XS, XE, XT, XI, XG, XN, XB, XQ, XU, XJ, XL, XO, XP, XA, XK, XK2, XK3, XK4, XK5, XK6, XK7, XK9, XK10, XK11, Option.map_some, Option.bind_some, Bool.not_true, Bool.not_false, if_true, XR, XD, XW, XGS, XZ, XM, XIN, XN2, Nat.reduceLT, List.set_cons_zero, List.set_cons_succ, List.length_cons, List.length_nil, Nat.zero_add, Nat.reduceAdd, b__law_marks, hb14, rng_nat (show m ≤ 1000000 by omega), e, List.length_map, List.length_range, cmpK_f (show m ≤ 1000000 by omega)]
  exact end_j h g (pus_strs _)
theorem a_bag {d k : Nat} {st : Sto} {ns : List Int} : ∃ j : Jar, j.ok ∧ run pg D (d + 1) n__law_bag [.scr ns, .int k] st = .ok (.cell st.length) (st ++ [some j.o]) := by
  have loop : ∀ (own s0 : Int), ∃ (s : Int) (x : Option T), exFor (.nm 4) (exs pg (run pg D d) b__law_bag_1) ((cutT ns none (some 7)).map .int) [some (.scr ns), some (.int k), some (.int own), some (.int s0), none, none] st = .nx [some (.scr ns), some (.int k), some (.int own), some (.int s), x, none] st := fun own s0 => by
    obtain ⟨env', s', e, rfl, s, x, rfl⟩ := exFor_at0 (g := .nm 4) (body := exs pg (run pg D d) b__law_bag_1)
      (fun i env s1 => s1 = st ∧ ∃ (s : Int) (x : Option T), env = [some (.scr ns), some (.int k), some (.int own), some (.int s), x, none]) (ts := (cutT ns none (some 7)).map .int) (env := [some (.scr ns), some (.int k), some (.int own), some (.int s0), none, none]) (st := st)
      ⟨rfl, _, none, rfl⟩ (by
        rintro i t ht env s1 ⟨rfl, s, x, rfl⟩
        obtain ⟨v, _, rfl⟩ := List.mem_map.mp (List.mem_of_getElem? ht)
        refine ⟨_, rfl, [some (.scr ns), some (.int k), some (.int own), some (.int ((s * 51713 + v % 1000121 + 17 * k) % 2147483549)), some (.int v), none], s1, ?_, rfl, _, _, rfl⟩
        simp only [XS, XE, XT, XI, XG, XN, XB, XQ, XU, XJ, XL, XO, XP, XA, XK, XK2, XK3, XK4, XK5, XK6, XK7, XK9, XK10, XK11, Option.map_some, Option.bind_some, Bool.not_true, Bool.not_false, if_true, XR, XD, XW, XGS, XZ, XM, XIN, XN2, Nat.reduceLT, List.set_cons_zero, List.set_cons_succ, List.length_cons, List.length_nil, Nat.zero_add, Nat.reduceAdd, b__law_bag_1, b_mul (mul_r (show -mid < 51713 ∧ 51713 < mid by decide)), b_mod (show (0 : Int) < 1000121 by decide), b_mul (mul_l (j := (k : Int)) (show -mid < 17 ∧ 17 < mid by decide)), b_mod (show (0 : Int) < 2147483549 by decide)])
    exact ⟨s, x, e⟩
  have hm1 : mulOk 99013 ((k : Int) + 5) = true := mul_l (by decide)
  have hpow : (10 : Int) ^ (Int.toNat 15) = 1000000000000000 := by decide
  have hpok : (0 : Int) ≤ 15 ∧ (15 : Int) ≤ 64 ∧ -mid < 10 ∧ 10 < mid := by decide
  have hm2 : ∀ own : Int, mulOk 99991 (own % 999931) = true := fun own => mul_l (by decide)
  have hok : ∀ own s : Int, Jar.ok ⟨if own < 0 ∨ 1000000000000000 ≤ own then (if own < 0 then -own else own) else 0, (s + 99991 * (own % 999931)) % 2147483549, 0⟩ := fun own s => by
    refine ⟨?_, Int.emod_nonneg _ (by decide), Int.le_refl _⟩
    show 0 ≤ (if own < 0 ∨ 1000000000000000 ≤ own then (if own < 0 then -own else own) else 0)
    split
    · split <;> omega
    · exact Int.le_refl _
  by_cases hk : k < ns.length
  · have hd : decide ((k : Int) < ns.length) = true := decide_eq_true (by omega)
    have hx := List.getElem?_eq_getElem hk
    obtain ⟨s, x, e⟩ := loop ns[k] (99013 * ((k : Int) + 5))
    refine ⟨_, hok ns[k] s, ?_⟩
    rw [go__law_bag]
    by_cases h1 : ns[k] < 0
    · simp only [XS, XE, XT, XI, XG, XN, XB, XQ, XU, XJ, XL, XO, XP, XA, XK, XK2, XK3, XK4, XK5, XK6, XK7, XK9, XK10, XK11, Option.map_some, Option.bind_some, Bool.not_true, Bool.not_false, if_true, XR, XD, XW, XGS, XZ, XM, XIN, XN2, Nat.reduceLT, List.set_cons_zero, List.set_cons_succ, List.length_cons, List.length_nil, Nat.zero_add, Nat.reduceAdd, b__law_bag, and_self, b_mul hm1, e, hd, at_nat, hx, b_mod (show (0 : Int) < 2147483549 by decide), b_mod (show (0 : Int) < 999931 by decide), b_mul (hm2 _), b_pow hpok, hpow, h1, decide_true, true_or]
      rfl
    · by_cases h2 : 1000000000000000 ≤ ns[k]
      · simp only [XS, XE, XT, XI, XG, XN, XB, XQ, XU, XJ, XL, XO, XP, XA, XK, XK2, XK3, XK4, XK5, XK6, XK7, XK9, XK10, XK11, Option.map_some, Option.bind_some, Bool.not_true, Bool.not_false, if_true, XR, XD, XW, XGS, XZ, XM, XIN, XN2, Nat.reduceLT, List.set_cons_zero, List.set_cons_succ, List.length_cons, List.length_nil, Nat.zero_add, Nat.reduceAdd, b__law_bag, and_self, b_mul hm1, e, hd, at_nat, hx, b_mod (show (0 : Int) < 2147483549 by decide), b_mod (show (0 : Int) < 999931 by decide), b_mul (hm2 _), b_pow hpok, hpow, h1, h2, decide_true, decide_false, or_true, if_false]
        rfl
      · simp only [XS, XE, XT, XI, XG, XN, XB, XQ, XU, XJ, XL, XO, XP, XA, XK, XK2, XK3, XK4, XK5, XK6, XK7, XK9, XK10, XK11, Option.map_some, Option.bind_some, Bool.not_true, Bool.not_false, if_true, XR, XD, XW, XGS, XZ, XM, XIN, XN2, Nat.reduceLT, List.set_cons_zero, List.set_cons_succ, List.length_cons, List.length_nil, Nat.zero_add, Nat.reduceAdd, b__law_bag, and_self, b_mul hm1, e, hd, at_nat, hx, b_mod (show (0 : Int) < 2147483549 by decide), b_mod (show (0 : Int) < 999931 by decide), b_mul (hm2 _), b_pow hpok, hpow, h1, h2, decide_false, or_self, if_false]
        rfl
  · have hd : decide ((k : Int) < ns.length) = false := decide_eq_false (by omega)
    obtain ⟨s, x, e⟩ := loop 0 (99013 * ((k : Int) + 5))
    refine ⟨_, hok 0 s, ?_⟩
    rw [go__law_bag]
    have h1 : ¬ ((0 : Int) < 0) := by decide
    have h2 : ¬ ((1000000000000000 : Int) ≤ 0) := by decide
    simp only [XS, XE, XT, XI, XG, XN, XB, XQ, XU, XJ, XL, XO, XP, XA, XK, XK2, XK3, XK4, XK5, XK6, XK7, XK9, XK10, XK11, Option.map_some, Option.bind_some, Bool.not_true, Bool.not_false, if_true, XR, XD, XW, XGS, XZ, XM, XIN, XN2, Nat.reduceLT, List.set_cons_zero, List.set_cons_succ, List.length_cons, List.length_nil, Nat.zero_add, Nat.reduceAdd, b__law_bag, and_self, b_mul hm1, e, hd, b_mod (show (0 : Int) < 2147483549 by decide), b_mod (show (0 : Int) < 999931 by decide), b_mul (hm2 _), b_pow hpok, hpow, h1, h2, decide_false, or_self, if_false]
    rfl
/-! family A: numbers drawn, shares made -/
def numSets : List (List Int) := [[0, 1, 2, 3], [0, 0, 0, 1, 5], [1, 2, 3, 4, 7], [0, 1, 1000000000000, 1000000], [1, 1, 1, 2]]
theorem sets_ok : ∀ l ∈ numSets, 0 < l.length ∧ l.length < 2 ^ 40 ∧ ∀ v ∈ l, 0 ≤ v ∧ v ≤ 1000000000000 := by decide +kernel
theorem a_sumcell {st : Sto} {n : Nat} {ns : List Int} (h : cellO st n = some (.lst (ns.map .int))) : blT pg st .sum [.cell n] = some (.int ns.sum) := by
  show sumT st [.cell n] = _
  have e : intsT (ns.map T.int) = some ns := ints_map _
  simp [sumT, lst1, lstOf, h, e]
theorem pus_ints2 : Pus ([[0, 1, 2, 3], [0, 0, 0, 1, 5], [1, 2, 3, 4, 7], [0, 1, 1000000000000, 1000000], [1, 1, 1, 2]].map fun (l : List Int) => T.lst (l.map .int)) := by decide +kernel
theorem set_sum : ∀ {ns : List Int} {i : Nat}, (∀ v ∈ ns, 0 ≤ v) → i < ns.length → (ns.set i 1).sum ≠ 0 := fun {ns} => by
  induction ns with
  | nil => intro i _ h; simp at h
  | cons x xs ih =>
    intro i h hi
    have hx := h x List.mem_cons_self
    have hs : 0 ≤ xs.sum := by
      have : ∀ l : List Int, (∀ v ∈ l, 0 ≤ v) → 0 ≤ l.sum := fun l => by
        induction l with
        | nil => intro _; simp
        | cons y l ih2 =>
          intro hl
          have a := hl y List.mem_cons_self
          have b := ih2 fun v hv => hl v (List.mem_cons_of_mem _ hv)
          rw [List.sum_cons]
          omega
      exact this xs fun v hv => h v (List.mem_cons_of_mem _ hv)
    cases i with
    | zero =>
      rw [List.set_cons_zero, List.sum_cons]
      omega
    | succ i =>
      have r := ih (i := i) (fun v hv => h v (List.mem_cons_of_mem _ hv)) (by simpa using hi)
      have p : 0 ≤ (xs.set i 1).sum := by
        have : ∀ l : List Int, (∀ v ∈ l, 0 ≤ v) → 0 ≤ l.sum := fun l => by
          induction l with
          | nil => intro _; simp
          | cons y l ih2 =>
            intro hl
            have a := hl y List.mem_cons_self
            have b := ih2 fun v hv => hl v (List.mem_cons_of_mem _ hv)
            rw [List.sum_cons]
            omega
        refine this _ fun v hv => ?_
        rcases List.mem_or_eq_of_mem_set hv with k | k
        · exact h v (List.mem_cons_of_mem _ k)
        · rw [k]; decide
      rw [List.set_cons_succ, List.sum_cons]
      omega
theorem a_numbers {d n many : Nat} {st : Sto} (h : HasJ st n) (hm : 0 < many) (h16 : many ≤ 16) :
    ∃ (ns : List Int) (st' : Sto), run pg D (d + 3) n__law_numbers [.cell n, .int many] st = .ok (.tup (ns.map .int)) st' ∧ Jgo n st st' ∧ ns.length = many ∧ (∀ v ∈ ns, 0 ≤ v ∧ v ≤ 1000000000000) ∧ ns.sum ≠ 0 := by
  obtain ⟨j, s1, e1, g1, j0, j1⟩ := a_draw (d := d + 1) (s := 5) h (by decide) (by decide)
  obtain ⟨t, et, mt⟩ := at_int (xs := numSets) j0 (by show j < 5; exact j1)
  obtain ⟨t0, t1, t2⟩ := sets_ok t mt
  have et' : atT (numSets.map fun (l : List Int) => T.lst (l.map .int)) j = some (.lst (t.map .int)) := by
    obtain ⟨k, rfl⟩ := Int.eq_ofNat_of_zero_le j0
    rw [at_nat] at et ⊢
    rw [List.getElem?_map, et]
    rfl
  obtain ⟨us, s2, ec, hl, hu, g2⟩ := compGo_inv (g := .nm 5) (own := [5]) (env := [some (.cell n), some (.int many), some (.int j), some (.lst (t.map .int)), none, none]) (cond := evA pg (run pg D (d + 2)) .nil)
    (elt := ev pg (run pg D (d + 2)) (.cl n__law_one (.cons (.v 0) (.cons (.v 3) .nil)))) (fun s => Jgo n st s) (fun u => ∃ v : Int, u = .int v ∧ 0 ≤ v ∧ v ≤ 1000000000000)
    (ts := (List.range many).map fun (k : Nat) => T.int k) (st := s1) g1 (by
      intro u hu s g
      obtain ⟨x, s', e, g', hx⟩ := a_one (d := d) (ts := t.map T.int) (h.go g) (pus_ints _) (by rw [List.length_map]; exact t0) (by rw [List.length_map]; exact t1)
      obtain ⟨v, hv, rfl⟩ := List.mem_map.mp hx
      refine ⟨_, rfl, rfl, .int v, s', ?_, ⟨v, rfl, t2 v hv⟩, g.trans g'⟩
      simp only [XS, XE, XT, XI, XG, XN, XB, XQ, XU, XJ, XL, XO, XP, XA, XK, XK2, XK3, XK4, XK5, XK6, XK7, XK9, XK10, XK11, Option.map_some, Option.bind_some, Bool.not_true, Bool.not_false, if_true, XR, XD, XW, XGS, XZ, XM, XIN, XN2, Nat.reduceLT, List.set_cons_zero, List.set_cons_succ, List.length_cons, List.length_nil, Nat.zero_add, Nat.reduceAdd, e])
  obtain ⟨ns, rfl⟩ : ∃ ns : List Int, us = ns.map .int := by
    clear ec hl
    induction us with
    | nil => exact ⟨[], rfl⟩
    | cons u us ih =>
      obtain ⟨v, rfl, _⟩ := hu u List.mem_cons_self
      obtain ⟨ns, rfl⟩ := ih fun u hu' => hu u (List.mem_cons_of_mem _ hu')
      exact ⟨v :: ns, rfl⟩
  have hb : ∀ v ∈ ns, 0 ≤ v ∧ v ≤ 1000000000000 := fun v hv => by
    obtain ⟨w, e, r⟩ := hu _ (List.mem_map_of_mem hv)
    cases e
    exact r
  rw [List.length_map, List.length_map, List.length_range] at hl
  have hpow : (10 : Int) ^ (Int.toNat 12) = 1000000000000 := by decide
  have hpow6 : (10 : Int) ^ (Int.toNat 6) = 1000000 := by decide
  have hp12 : (0 : Int) ≤ 12 ∧ (12 : Int) ≤ 64 ∧ -mid < 10 ∧ 10 < mid := by decide
  have hp6 : (0 : Int) ≤ 6 ∧ (6 : Int) ≤ 64 ∧ -mid < 10 ∧ 10 < mid := by decide
  have et2 : atT [T.lst [.int 0, .int 1, .int 2, .int 3], .lst [.int 0, .int 0, .int 0, .int 1, .int 5], .lst [.int 1, .int 2, .int 3, .int 4, .int 7], .lst [.int 0, .int 1, .int 1000000000000, .int 1000000], .lst [.int 1, .int 1, .int 1, .int 2]] j = some (.lst (t.map .int)) := et'
  have hc : cellO (s2 ++ [some (O.lst (ns.map T.int))]) s2.length = some (.lst (ns.map .int)) := a_cell_top
  rw [go__law_numbers]
  by_cases hz : ns.sum = 0
  · obtain ⟨k, s3, e3, g3, k0, k1⟩ := a_draw (d := d + 1) (s := (many : Int)) ((h.go g2).app (l := [some (O.lst (ns.map T.int))])) (by omega) (by omega)
    obtain ⟨s4, rfl, g4⟩ := Jgo.app (h.go g2) g3
    obtain ⟨k, rfl⟩ := Int.eq_ofNat_of_zero_le k0
    have hk : k < ns.length := by omega
    have hl4 : s2.length = s4.length := g4.len.symm
    have hc4 : cellO (s4 ++ [some (O.lst (ns.map T.int))]) s2.length = some (.lst (ns.map .int)) := by rw [hl4]; exact a_cell_top
    have hset : setT (ns.map T.int) (k : Int) (.int 1) = some ((ns.set k 1).map .int) := by
      unfold setT
      rw [if_pos ⟨by omega, by rw [List.length_map]; omega⟩, List.map_set]
      rfl
    have hc5 : cellO (s4 ++ [some (O.lst ((ns.set k 1).map T.int))]) s2.length = some (.lst ((ns.set k 1).map .int)) := by rw [hl4]; exact a_cell_top
    have hput : putO (s4 ++ [some (O.lst (ns.map T.int))]) s2.length (.lst ((ns.set k 1).map T.int)) = s4 ++ [some (O.lst ((ns.set k 1).map T.int))] := by rw [hl4]; exact a_put_top
    refine ⟨ns.set k 1, s4, ?_, g2.trans g4, by rw [List.length_set]; exact hl, fun v hv => ?_, set_sum (fun v hv => (hb v hv).1) hk⟩
    · simp only [XS, XE, XT, XI, XG, XN, XB, XQ, XU, XJ, XL, XO, XP, XA, XK, XK2, XK3, XK4, XK5, XK6, XK7, XK9, XK10, XK11, Option.map_some, Option.bind_some, Bool.not_true, Bool.not_false, if_true, XR, XD, XW, XGS, XZ, XM, XIN, XN2, Nat.reduceLT, List.set_cons_zero, List.set_cons_succ, List.length_cons, List.length_nil, Nat.zero_add, Nat.reduceAdd, b__law_numbers, e1, b_pow hp12, hpow, b_pow hp6, hpow6, et2, rng_nat (show many ≤ 1000000 by omega), ec, List.length_map, List.length_range, cmpK_t (show many ≤ 1000000 by omega), a_sumcell hc, hz, decide_true, e3, put_cell hc4, hset, hput, tup_cell hc5]
      exact end_j h (g2.trans g4) (pus_ints _)
    · rcases List.mem_or_eq_of_mem_set hv with q | q
      · exact hb v q
      · rw [q]; decide
  · refine ⟨ns, s2, ?_, g2, hl, hb, hz⟩
    simp only [XS, XE, XT, XI, XG, XN, XB, XQ, XU, XJ, XL, XO, XP, XA, XK, XK2, XK3, XK4, XK5, XK6, XK7, XK9, XK10, XK11, Option.map_some, Option.bind_some, Bool.not_true, Bool.not_false, if_true, XR, XD, XW, XGS, XZ, XM, XIN, XN2, Nat.reduceLT, List.set_cons_zero, List.set_cons_succ, List.length_cons, List.length_nil, Nat.zero_add, Nat.reduceAdd, b__law_numbers, e1, b_pow hp12, hpow, b_pow hp6, hpow6, et2, rng_nat (show many ≤ 1000000 by omega), ec, List.length_map, List.length_range, cmpK_t (show many ≤ 1000000 by omega), a_sumcell hc, hz, decide_false, tup_cell hc]
    exact end_j h g2 (pus_ints _)
theorem pool_names0 : ∀ x ∈ poolA, 0 < x.length ∧ x.length ≤ 8 ∧ ∀ c ∈ x, c ∈ letters := by decide +kernel
theorem pool_names : ∀ x ∈ poolA, Name x := fun x hx => ⟨(pool_names0 x hx).1, (pool_names0 x hx).2.1, (pool_names0 x hx).2.2⟩
theorem names_pool {ms : List (List Nat)} (h0 : 0 < ms.length) (h4 : ms.length ≤ 4) (nd : ms.Nodup) (h : ∀ x ∈ ms, x ∈ poolA) : Names ms := ⟨h0, h4, fun m hm => pool_names m (h m hm), nd⟩
theorem a_shares {d n most : Nat} {st : Sto} (h : HasJ st n) (h1 : 1 ≤ most) (h4 : most ≤ 4) : ∃ (ms : List (List Nat)) (ns : List Int) (st' : Sto), run pg D (d + 4) n__law_shares [.cell n, .int most] st = .ok (.lst [.tup (ms.map .str), .tup (ns.map .int)]) st' ∧ Jgo n st st' ∧
    Names ms ∧ ms.length ≤ most ∧ Shs ms ns ∧ ns.sum ≠ 0 := by
  obtain ⟨j, s1, e1, g1, j0, j1⟩ := a_draw (d := d + 2) (s := (most : Int)) h (by omega) (by omega)
  obtain ⟨j, rfl⟩ := Int.eq_ofNat_of_zero_le j0
  have hmn : (1 : Int) + (j : Int) = ((j + 1 : Nat) : Int) := by omega
  obtain ⟨ms, s2, e2, g2, hl, nd, hp⟩ := a_marks (d := d + 1) (m := j + 1) (h.go g1) (by omega)
  have N : Names ms := names_pool (by omega) (by omega) nd hp
  have hrl : (rowsN (j + 1)).length = 2 ^ (j + 1) := rows_cnt (by omega)
  have hp16 : 2 ^ (j + 1) ≤ 2 ^ 4 := Nat.pow_le_pow_right (by decide) (by omega)
  obtain ⟨ns, s3, e3, g3, hnl, hb, hs⟩ := a_numbers (d := d) (many := 2 ^ (j + 1)) ((h.go g1).go g2) (Nat.pow_pos (by decide)) (by omega)
  have e4 := a_rows (d := d + 2) (st := s2) (n := j + 1) (by omega)
  have hci : (((2 ^ (j + 1) : Nat)) : Int) = (2 ^ (j + 1) : Nat) := rfl
  refine ⟨ms, ns, s3, ?_, (g1.trans g2).trans g3, N, by omega, ⟨N.h0, N.h4, by rw [hl]; exact hnl, hb⟩, hs⟩
  rw [go__law_shares]
  simp only [XS, XE, XT, XI, XG, XN, XB, XQ, XU, XJ, XL, XO, XP, XA, XK, XK2, XK3, XK4, XK5, XK6, XK7, XK9, XK10, XK11, Option.map_some, Option.bind_some, Bool.not_true, Bool.not_false, if_true, XR, XD, XW, XGS, XZ, XM, XIN, XN2, Nat.reduceLT, List.set_cons_zero, List.set_cons_succ, List.length_cons, List.length_nil, Nat.zero_add, Nat.reduceAdd, b__law_shares, e1, hmn, e2, List.length_map, hl, e4, hrl, e3]
  exact end_j0 h ((g1.trans g2).trans g3) (show Pus [T.tup (ms.map .str), T.tup (ns.map .int)] from lts_all fun t ht => by
    simp only [List.mem_cons, List.not_mem_nil, or_false] at ht
    rcases ht with rfl | rfl
    · exact pus_strs _
    · exact pus_ints _)
theorem a_made {d : Nat} {st : Sto} {ms : List (List Nat)} {ns : List Int} (N : Names ms) (S : Shs ms ns) (hs : ns.sum ≠ 0) : run pg D (d + 5) n__law_made [.lst [.tup (ms.map .str), .tup (ns.map .int)]] st = .ok (shT ms ns) st := by
  rw [go__law_made]
  simp only [XS, XE, XT, XI, XG, XN, XB, XQ, XU, XJ, XL, XO, XP, XA, XK, XK2, XK3, XK4, XK5, XK6, XK7, XK9, XK10, XK11, Option.map_some, Option.bind_some, Bool.not_true, Bool.not_false, if_true, XR, XD, XW, XGS, XZ, XM, XIN, XN2, Nat.reduceLT, List.set_cons_zero, List.set_cons_succ, List.length_cons, List.length_nil, Nat.zero_add, Nat.reduceAdd, b__law_made, s_mk N S hs]
  exact end_rt0 (pu_sh _ _)
/-! family A: shares' own special methods, texts -/
theorem a_textAt {st : Sto} {ms : List (List Nat)} {ns : List Int} : omV pg st (shT ms ns) f_text = some n_Shares_text := by kernel_rfl
theorem fld_total {st : Sto} {ms : List (List Nat)} {ns : List Int} : fldV pg st (shT ms ns) 2 = .ok (.int ns.sum) st := by kernel_rfl
theorem own_len {st : Sto} {ms : List (List Nat)} {ns : List Int} : ownF pg st f___len__ (shT ms ns) = some (0, n_Shares___len__) := by kernel_rfl
theorem own_eq {st : Sto} {ms : List (List Nat)} {ns : List Int} : ownF pg st f___eq__ (shT ms ns) = some (0, n_Shares___eq__) := by kernel_rfl
theorem oth_sh {st : Sto} {ms : List (List Nat)} {ns : List Int} : otherOk pg st 0 (shT ms ns) = true := by kernel_rfl
theorem oth_lst {st : Sto} {ts : List T} : otherOk pg st 0 (.lst ts) = true := by kernel_rfl
theorem oth_str {st : Sto} {cs : List Nat} : otherOk pg st 0 (.str cs) = true := by kernel_rfl
theorem oth_tup {st : Sto} {ts : List T} : otherOk pg st 0 (.tup ts) = true := by kernel_rfl
theorem isi_lstS {st : Sto} {ts : List T} : isiT pg st (.lst ts) (.gl 0) = some false := by kernel_rfl
theorem isi_strS {st : Sto} {cs : List Nat} : isiT pg st (.str cs) (.gl 0) = some false := by kernel_rfl
theorem isi_tupS {st : Sto} {ts : List T} : isiT pg st (.tup ts) (.gl 0) = some false := by kernel_rfl
theorem a_len {d : Nat} {st : Sto} {ms : List (List Nat)} {ns : List Int} : run pg D (d + 1) n_Shares___len__ [shT ms ns] st = .ok (.int ns.length) st := by
  rw [go_Shares___len__]
  simp only [XS, XE, XT, XI, XG, XN, XB, XQ, XU, XJ, XL, XO, XP, XA, XK, XK2, XK3, XK4, XK5, XK6, XK7, XK9, XK10, XK11, Option.map_some, Option.bind_some, Bool.not_true, Bool.not_false, if_true, XR, XD, XW, XGS, XZ, XM, XIN, XN2, Nat.reduceLT, List.set_cons_zero, List.set_cons_succ, List.length_cons, List.length_nil, Nat.zero_add, Nat.reduceAdd, b_Shares___len__, fld_numbers, List.length_map]
  refine end_rt0 ?_
  rfl
theorem dats_strs : ∀ {xs : List (List Nat)} {k : Nat}, (∀ x ∈ xs, ∀ c ∈ x, c < 1114112) → T.dats k (xs.map .str) = true
  | [], _, _ => by simp [T.dats]
  | x :: xs, k, h => by
    have ih := dats_strs (xs := xs) (k := k) fun y hy => h y (List.mem_cons_of_mem _ hy)
    have hx : (x.all fun c => decide (c < 1114112)) = true := List.all_eq_true.mpr fun c hc => decide_eq_true (h x List.mem_cons_self c hc)
    rw [List.map_cons]
    cases k <;> simp only [T.dats, T.dat, hx, ih, Bool.and_self]
theorem dats_ints : ∀ {xs : List Int} {k : Nat}, T.dats k (xs.map .int) = true
  | [], _ => by simp [T.dats]
  | x :: xs, k => by
    have ih := dats_ints (xs := xs) (k := k)
    rw [List.map_cons]
    cases k <;> simp only [T.dats, T.dat, ih, Bool.and_self]
theorem eqvs_strs : ∀ {xs ys : List (List Nat)}, T.eqvs (xs.map .str) (ys.map .str) = decide (xs = ys)
  | [], [] => rfl
  | [], _ :: _ => rfl
  | _ :: _, [] => rfl
  | x :: xs, y :: ys => by
    have ih := eqvs_strs (xs := xs) (ys := ys)
    rw [List.map_cons,
            List.map_cons]
    simp only [T.eqvs, T.eqv, ih]
    by_cases e : x = y
    · subst e; by_cases e2 : xs = ys <;> simp [e2]
    · simp [e]
theorem eqvs_ints : ∀ {xs ys : List Int}, T.eqvs (xs.map .int) (ys.map .int) = decide (xs = ys)
  | [], [] => rfl
  | [], _ :: _ => rfl
  | _ :: _, [] => rfl
  | x :: xs, y :: ys => by
    have ih := eqvs_ints (xs := xs) (ys := ys)
    rw [List.map_cons,
            List.map_cons]
    simp only [T.eqvs, T.eqv, ih]
    by_cases e : x = y
    · subst e; by_cases e2 : xs = ys <;> simp [e2]
    · simp [e]
theorem letters_small : ∀ c ∈ letters, c < 1114112 := by decide +kernel
theorem names_small {ms : List (List Nat)} (N : Names ms) : ∀ x ∈ ms, ∀ c ∈ x, c < 1114112 := fun x hx c hc => letters_small c ((N.hn x hx).hc c hc)
theorem eq_tstrs {st : Sto} {xs ys : List (List Nat)} (hx : ∀ x ∈ xs, ∀ c ∈ x, c < 1114112) (hy : ∀ x ∈ ys, ∀ c ∈ x, c < 1114112) : cmpT st .Eq (.tup (xs.map .str)) (.tup (ys.map .str)) = some (decide (xs = ys)) := by
  show eqT _ _ = _
  unfold eqT
  simp only [T.dat, dats_strs hx, dats_strs hy, Bool.and_self, if_true, T.eqv, eqvs_strs]
theorem eq_tints {st : Sto} {xs ys : List Int} : cmpT st .Eq (.tup (xs.map .int)) (.tup (ys.map .int)) = some (decide (xs = ys)) := by
  show eqT _ _ = _
  unfold eqT
  simp only [T.dat, dats_ints, Bool.and_self, if_true, T.eqv, eqvs_ints]
theorem a_eq {d : Nat} {st : Sto} {ms ms' : List (List Nat)} {ns ns' : List Int} (N : Names ms) (N' : Names ms') : run pg D (d + 1) n_Shares___eq__ [shT ms ns, shT ms' ns'] st = .ok (.bl (decide (ms = ms') && decide (ns = ns'))) st := by
  rw [go_Shares___eq__]
  have e1 := eq_tstrs (st := st) (names_small N) (names_small N')
  cases hd : decide (ms = ms') with
  | true =>
    rw [hd] at e1
    simp only [XS, XE, XT, XI, XG, XN, XB, XQ, XU, XJ, XL, XO, XP, XA, XK, XK2, XK3, XK4, XK5, XK6, XK7, XK9, XK10, XK11, Option.map_some, Option.bind_some, Bool.not_true, Bool.not_false, if_true, XR, XD, XW, XGS, XZ, XM, XIN, XN2, Nat.reduceLT, List.set_cons_zero, List.set_cons_succ, List.length_cons, List.length_nil, Nat.zero_add, Nat.reduceAdd, b_Shares___eq__, isi_shT, fld_marks, fld_numbers, e1, eq_tints]
    simp only [Bool.true_and]
    refine end_rt0 ?_
    rfl
  | false =>
    rw [hd] at e1
    simp only [XS, XE, XT, XI, XG, XN, XB, XQ, XU, XJ, XL, XO, XP, XA, XK, XK2, XK3, XK4, XK5, XK6, XK7, XK9, XK10, XK11, Option.map_some, Option.bind_some, Bool.not_true, Bool.not_false, if_true, XR, XD, XW, XGS, XZ, XM, XIN, XN2, Nat.reduceLT, List.set_cons_zero, List.set_cons_succ, List.length_cons, List.length_nil, Nat.zero_add, Nat.reduceAdd, b_Shares___eq__, isi_shT, fld_marks, fld_numbers, e1, eq_tints]
    simp only [Bool.false_and]
    refine end_rt0 ?_
    rfl
theorem a_eqL {d : Nat} {st : Sto} {ms : List (List Nat)} {ns : List Int} {ts : List T} : run pg D (d + 1) n_Shares___eq__ [shT ms ns, .lst ts] st = .ok (.bl false) st := by
  rw [go_Shares___eq__]
  simp only [XS, XE, XT, XI, XG, XN, XB, XQ, XU, XJ, XL, XO, XP, XA, XK, XK2, XK3, XK4, XK5, XK6, XK7, XK9, XK10, XK11, Option.map_some, Option.bind_some, Bool.not_true, Bool.not_false, if_true, XR, XD, XW, XGS, XZ, XM, XIN, XN2, Nat.reduceLT, List.set_cons_zero, List.set_cons_succ, List.length_cons, List.length_nil, Nat.zero_add, Nat.reduceAdd, b_Shares___eq__, isi_lstS]
  exact end_rt0 (show Pu (.bl false) from rfl)
theorem a_eqS {d : Nat} {st : Sto} {ms : List (List Nat)} {ns : List Int} {cs : List Nat} : run pg D (d + 1) n_Shares___eq__ [shT ms ns, .str cs] st = .ok (.bl false) st := by
  rw [go_Shares___eq__]
  simp only [XS, XE, XT, XI, XG, XN, XB, XQ, XU, XJ, XL, XO, XP, XA, XK, XK2, XK3, XK4, XK5, XK6, XK7, XK9, XK10, XK11, Option.map_some, Option.bind_some, Bool.not_true, Bool.not_false, if_true, XR, XD, XW, XGS, XZ, XM, XIN, XN2, Nat.reduceLT, List.set_cons_zero, List.set_cons_succ, List.length_cons, List.length_nil, Nat.zero_add, Nat.reduceAdd, b_Shares___eq__, isi_strS]
  refine end_rt0 ?_
  rfl
/-! texts of shares -/
def lineS (p : List Nat × Int) : List Nat := (p.1 ++ [58, 32]) ++ itoa p.2
def linesS (ms : List (List Nat)) (ns : List Int) : List (List Nat) := ((List.zip (rowsN ms.length) ns).filter fun p => decide (p.2 > 0)).map lineS
def textS (ms : List (List Nat)) (ns : List Int) : List Nat := joinS [10] (([109, 97, 114, 107, 115, 32] ++ joinS [44, 32] ms) :: linesS ms ns)
theorem join_le {sep : List Nat} : ∀ {xs : List (List Nat)}, (joinS sep xs).length ≤ (xs.map List.length).sum + xs.length * sep.length
  | [] => Nat.zero_le _
  | [x] => by simp [joinS]
  | x :: y :: r => by
    have ih := join_le (sep := sep) (xs := y :: r)
    simp only [joinS, List.length_append, List.map_cons, List.sum_cons, List.length_cons] at ih ⊢
    have e : (r.length + 1 + 1) * sep.length = (r.length + 1) * sep.length + sep.length := Nat.succ_mul _ _
    omega
theorem sum_le {α : Type} {f : α → Nat} {k : Nat} : ∀ {xs : List α}, (∀ x ∈ xs, f x ≤ k) → (xs.map f).sum ≤ xs.length * k
  | [], _ => Nat.zero_le _
  | x :: xs, h => by
    have ih := sum_le (xs := xs) fun y hy => h y (List.mem_cons_of_mem _ hy)
    have hx := h x List.mem_cons_self
    rw [List.map_cons, List.sum_cons,
            List.length_cons, Nat.succ_mul]
    omega
theorem zip_tups {st : Sto} {α β : Type} {u : α → T} {v : β → T} {xs : List α} {ys : List β} : zipOf st (.tup (xs.map u)) (.tup (ys.map v)) = some ((List.zip xs ys).map fun p => T.tup [u p.1, v p.2]) := by
  show some (zipT (xs.map u) (ys.map v)) = _
  rw [zipT_map]
theorem rows_small {n : Nat} (hn : n ≤ 4) : ∀ r ∈ rowsN n, r.length ≤ 4 := by
  match n, hn with
  | 0, _ => decide +kernel
  | 1, _ => decide +kernel
  | 2, _ => decide +kernel
  | 3, _ => decide +kernel
  | 4, _ => decide +kernel
theorem line_le {ms : List (List Nat)} {ns : List Int} (S : Shs ms ns) : ∀ p ∈ List.zip (rowsN ms.length) ns, p.1.length ≤ 4 ∧ p.2.natAbs < 10 ^ 13 := fun p hp => by
  have h1 := rows_small S.m4 p.1 (List.of_mem_zip hp).1
  have h2 := S.nb p.2 (List.of_mem_zip hp).2
  exact ⟨h1, by omega⟩
theorem lines_le {ms : List (List Nat)} {ns : List Int} (S : Shs ms ns) : (linesS ms ns).length ≤ 16 ∧ ∀ l ∈ linesS ms ns, l.length ≤ 20 := by
  unfold linesS
  refine ⟨?_, fun l hl => ?_⟩
  · rw [List.length_map]
    refine Nat.le_trans (List.length_filter_le _ _) ?_
    rw [List.length_zip]
    have : (rowsN ms.length).length = 2 ^ ms.length := rows_cnt S.m4
    have h2 : 2 ^ ms.length ≤ 2 ^ 4 := Nat.pow_le_pow_right (by decide) S.m4
    omega
  · obtain ⟨p, hp, rfl⟩ := List.mem_map.mp hl
    obtain ⟨h1, h2⟩ := line_le S p (List.mem_filter.mp hp).1
    have h3 := itoa_len (k := 13) (by decide) h2
    unfold lineS
    simp only [List.length_append, List.length_cons, List.length_nil]
    omega
theorem a_text {d : Nat} {st : Sto} {ms : List (List Nat)} {ns : List Int} (N : Names ms) (S : Shs ms ns) : run pg D (d + 2) n_shares_text [.tup (ms.map .str), .tup (ns.map .int)] st = .ok (.str (textS ms ns)) st := by
  have ec : compGo (.two (.nm 3) (.nm 4)) [3, 4] [some (.tup (ms.map .str)), some (.tup (ns.map .int)), none, none, none] (evA pg (run pg D (d + 1)) (.cons (.cmp .Gt (.v 4) (.c (.int 0))) .nil)) (ev pg (run pg D (d + 1)) (.fs (.cons (.fm (.v 3)) (.cons (.c (.str [58, 32])) (.cons (.fm (.v 4)) .nil)))))
      ((List.zip (rowsN ms.length) ns).map fun p => T.tup [.str p.1, .int p.2]) st = .ok (((List.zip (rowsN ms.length) ns).filter fun p => decide (p.2 > 0)).map fun p => T.str (lineS p)) st := by
    refine compGo_ofp (fun (p : List Nat × Int) => T.tup [.str p.1, .int p.2]) (fun p => T.str (lineS p)) (fun p => decide (p.2 > 0)) fun p hp => ?_
    obtain ⟨h1, h2⟩ := line_le S p hp
    have h3 := itoa_len (k := 13) (by decide) h2
    refine ⟨_, rfl, ?_, fun _ => ?_⟩
    · simp only [XS, XE, XT, XI, XG, XN, XB, XQ, XU, XJ, XL, XO, XP, XA, XK, XK2, XK3, XK4, XK5, XK6, XK7, XK9, XK10, XK11, Option.map_some, Option.bind_some, Bool.not_true, Bool.not_false, if_true, XR, XD, XW, XGS, XZ, XM, XIN, XN2, Nat.reduceLT, List.set_cons_zero, List.set_cons_succ, List.length_cons, List.length_nil, Nat.zero_add, Nat.reduceAdd]
    · have b1 : ([] : List Nat).length + p.1.length ≤ big := small (by simp; omega)
      have b2 : (p.1).length + [58, 32].length ≤ big := small (by simp; omega)
      have b3 : (p.1 ++ [58, 32]).length + (itoa p.2).length ≤ big := small (by simp; omega)
      have h60 : p.2.natAbs < 10 ^ 60 := Nat.lt_trans h2 (by decide)
      have a1 : ∀ (r : Xs) (env : Mu.Env), KevJ pg (run pg D (d + 1)) r [] env (.str p.1) st = evJ pg (run pg D (d + 1)) r p.1 env st := fun r env => evJ_str b1
      simp only [XS, XE, XT, XI, XG, XN, XB, XQ, XU, XJ, XL, XO, XP, XA, XK, XK2, XK3, XK4, XK5, XK6, XK7, XK9, XK10, XK11, Option.map_some, Option.bind_some, Bool.not_true, Bool.not_false, if_true, XR, XD, XW, XGS, XZ, XM, XIN, XN2, Nat.reduceLT, List.set_cons_zero, List.set_cons_succ, List.length_cons, List.length_nil, Nat.zero_add, Nat.reduceAdd, fm_str (show p.1.length ≤ big from small (by omega)), fm_int h60, a1, evJ_str b2, evJ_str b3]
      rfl
  obtain ⟨c1, c2⟩ := lines_le S
  have hm : ∀ m ∈ ms, m.length ≤ 8 := fun m hm => (N.hn m hm).h8
  have hms := sum_le (f := List.length) hm
  have hm4 := N.h4
  have j1 : (ms.map List.length).sum + ms.length * [44, 32].length ≤ big := small (by simp only [List.length_cons, List.length_nil]; omega)
  have jl := join_le (sep := [44, 32]) (xs := ms)
  have hz : [109, 97, 114, 107, 115, 32].length + (joinS [44, 32] ms).length ≤ big := small (by simp only [List.length_cons, List.length_nil] at jl ⊢; omega)
  have hlines : (((List.zip (rowsN ms.length) ns).filter fun p => decide (p.2 > 0)).map fun p => T.str (lineS p)) = (linesS ms ns).map .str := by unfold linesS; rw [List.map_map]; rfl
  have hcat : ([T.str ([109, 97, 114, 107, 115, 32] ++ joinS [44, 32] ms)] : List T).length + ((linesS ms ns).map T.str).length ≤ big := small (by rw [List.length_map]; simp only [List.length_cons, List.length_nil]; omega)
  have hall : ([T.str ([109, 97, 114, 107, 115, 32] ++ joinS [44, 32] ms)] : List T) ++ (linesS ms ns).map T.str = (([109, 97, 114, 107, 115, 32] ++ joinS [44, 32] ms) :: linesS ms ns).map .str := rfl
  have j2 : ((([109, 97, 114, 107, 115, 32] ++ joinS [44, 32] ms) :: linesS ms ns).map List.length).sum + (([109, 97, 114, 107, 115, 32] ++ joinS [44, 32] ms) :: linesS ms ns).length * [10].length ≤ big := small (by
    have := sum_le (f := List.length) c2
    simp only [List.map_cons, List.sum_cons, List.length_cons, List.length_nil, List.length_append] at jl ⊢
    omega)
  have hzl : (List.zip (rowsN ms.length) ns).length ≤ 1000000 := by
    rw [List.length_zip]
    have : (rowsN ms.length).length = 2 ^ ms.length := rows_cnt S.m4
    have h2 : 2 ^ ms.length ≤ 2 ^ 4 := Nat.pow_le_pow_right (by decide) S.m4
    omega
  rw [go_shares_text]
  simp only [XS, XE, XT, XI, XG, XN, XB, XQ, XU, XJ, XL, XO, XP, XA, XK, XK2, XK3, XK4, XK5, XK6, XK7, XK9, XK10, XK11, Option.map_some, Option.bind_some, Bool.not_true, Bool.not_false, if_true, XR, XD, XW, XGS, XZ, XM, XIN, XN2, Nat.reduceLT, List.set_cons_zero, List.set_cons_succ, List.length_cons, List.length_nil, Nat.zero_add, Nat.reduceAdd, b_shares_text, s_every_row S.m4, List.length_map, zip_tups, ec, cmpK_f hzl, hlines, mt_joint j1, b_adds hz, b_addl hcat, hall, mt_join j2]
  exact end_rt0 rfl
end LW
end
section
set_option Elab.async false
set_option linter.all false
set_option maxRecDepth 100000
set_option maxHeartbeats 400001
set_option exponentiation.threshold 3000
namespace LW
open Mu PySem
/-! family A: unlike shares have unlike texts -/
theorem split_c {c : Nat} : ∀ {x y a b : List Nat}, c ∉ x → c ∉ y → x ++ c :: a = y ++ c :: b → x = y ∧ a = b
  | [], [], _, _, _, _, h => ⟨rfl, (List.cons.inj h).2⟩
  | [], z :: _, _, _, _, hy, h => absurd (by rw [(List.cons.inj h).1]; exact List.mem_cons_self) hy
  | z :: _, [], _, _, hx, _, h => absurd (by rw [← (List.cons.inj h).1]; exact List.mem_cons_self) hx
  | z :: x, u :: y, _, _, hx, hy, h => by
    obtain ⟨e1, e2⟩ := List.cons.inj h
    obtain ⟨q1, q2⟩ := split_c (fun k => hx (List.mem_cons_of_mem _ k)) (fun k => hy (List.mem_cons_of_mem _ k)) e2
    exact ⟨by rw [e1, q1], q2⟩
theorem join_inj {c : Nat} {s : List Nat} : ∀ {xs ys : List (List Nat)}, xs ≠ [] → ys ≠ [] → (∀ x ∈ xs, c ∉ x) → (∀ y ∈ ys, c ∉ y) → joinS (c :: s) xs = joinS (c :: s) ys → xs = ys
  | [], _, h, _, _, _, _ => absurd rfl h
  | _ :: _, [], _, h, _, _, _ => absurd rfl h
  | [x], [y], _, _, _, _, h => by
    have h : x = y := h
    rw [h]
  | [x], y :: z :: r, _, _, hx, _, h => by
    have h : x = y ++ c :: s ++ joinS (c :: s) (z :: r) := h
    exact absurd (by rw [h]; simp) (hx x List.mem_cons_self)
  | x :: z :: r, [y], _, _, _, hy, h => by
    have h : x ++ c :: s ++ joinS (c :: s) (z :: r) = y := h
    exact absurd (by rw [← h]; simp) (hy y List.mem_cons_self)
  | x :: z :: r, y :: u :: q, _, _, hx, hy, h => by
    have h : x ++ c :: s ++ joinS (c :: s) (z :: r) = y ++ c :: s ++ joinS (c :: s) (u :: q) := h
    rw [List.append_assoc, List.append_assoc, List.cons_append, List.cons_append] at h
    obtain ⟨e1, e2⟩ := split_c (hx x List.mem_cons_self) (hy y List.mem_cons_self) h
    have e3 := join_inj (xs := z :: r) (ys := u :: q) (by simp) (by simp) (fun k hk => hx k (List.mem_cons_of_mem _ hk)) (fun k hk => hy k (List.mem_cons_of_mem _ hk)) (List.append_cancel_left e2)
    rw [e1, e3]
theorem itoa_nat (m : Nat) : itoa (m : Int) = (Nat.toDigits 10 m).map Char.toNat := PySem.W.KIN.signs_num m
theorem itoa_inj {a b : Int} (ha : 0 ≤ a) (hb : 0 ≤ b) (h : itoa a = itoa b) : a = b := by
  obtain ⟨m, rfl⟩ := Int.eq_ofNat_of_zero_le ha
  obtain ⟨n, rfl⟩ := Int.eq_ofNat_of_zero_le hb
  rw [itoa_nat, itoa_nat] at h
  have q := congrArg PySem.NumText.digitsVal h
  rw [PySem.W.KIN.val_back, PySem.W.KIN.val_back] at q
  rw [q]
theorem itoa_no (i : Int) : 10 ∉ itoa i := PyProof.Rows.int_text_free' 10 ⟨by decide, by decide⟩ i
theorem rows_nodup {n : Nat} (hn : n ≤ 4) : (rowsN n).Nodup := by
  match n, hn with
  | 0, _ => decide +kernel
  | 1, _ => decide +kernel
  | 2, _ => decide +kernel
  | 3, _ => decide +kernel
  | 4, _ => decide +kernel
theorem letters_no : ∀ c ∈ letters, c ≠ 10 ∧ c ≠ 44 := by decide +kernel
theorem line_no {n : Nat} {p : List Nat × Int} (h : Row n p.1) : 10 ∉ lineS p := fun hm => by
  unfold lineS at hm
  rw [List.mem_append, List.mem_append] at hm
  rcases hm with (hm | hm) | hm
  · have := h.2 10 hm
    exact absurd this (by decide)
  · exact absurd hm (by decide)
  · exact itoa_no _ hm
theorem line_inj {n : Nat} {p q : List Nat × Int} (hp : Row n p.1) (hq : Row n q.1) (p0 : 0 ≤ p.2) (q0 : 0 ≤ q.2) (h : lineS p = lineS q) : p = q := by
  unfold lineS at h
  rw [List.append_assoc, List.append_assoc] at h
  obtain ⟨e1, e2⟩ := List.append_inj h (by rw [hp.1, hq.1])
  have e3 := itoa_inj p0 q0 (List.append_cancel_left e2)
  exact Prod.ext e1 e3
theorem map_inj_on {α β : Type} {f : α → β} {P : α → Prop} (hf : ∀ a b, P a → P b → f a = f b → a = b) : ∀ {xs ys : List α}, (∀ x ∈ xs, P x) → (∀ y ∈ ys, P y) → xs.map f = ys.map f → xs = ys
  | [], [], _, _, _ => rfl
  | [], _ :: _, _, _, h => by cases h
  | _ :: _, [], _, _, h => by cases h
  | x :: xs, y :: ys, hx, hy, h => by
    obtain ⟨e1, e2⟩ := List.cons.inj h
    rw [hf x y (hx x List.mem_cons_self) (hy y List.mem_cons_self) e1, map_inj_on hf (fun a ha => hx a (List.mem_cons_of_mem _ ha)) (fun a ha => hy a (List.mem_cons_of_mem _ ha)) e2]
theorem zip_val {rs : List (List Nat)} {ns : List Int} (nd : rs.Nodup) {i : Nat} {r : List Nat} {v : Int} (hr : rs[i]? = some r) (hm : (r, v) ∈ List.zip rs ns) : ns[i]? = some v := by
  obtain ⟨j, hj⟩ := List.mem_iff_getElem?.mp hm
  rw [List.getElem?_zip_eq_some] at hj
  have e : j = i := (List.getElem?_inj (List.getElem?_eq_some_iff.mp hj.1).1 nd).mp (hj.1.trans hr.symm)
  rw [← e]
  exact hj.2
theorem nums_eq {rs : List (List Nat)} {ns ns' : List Int} (nd : rs.Nodup) (l : ns.length = rs.length) (l' : ns'.length = rs.length) (h0 : ∀ v ∈ ns, 0 ≤ v) (h0' : ∀ v ∈ ns', 0 ≤ v)
    (h : ((List.zip rs ns).filter fun p => decide (p.2 > 0)) = (List.zip rs ns').filter fun p => decide (p.2 > 0)) : ns = ns' := by
  have half : ∀ {ns ns' : List Int}, ns.length = rs.length → ((List.zip rs ns).filter fun p => decide (p.2 > 0)) = ((List.zip rs ns').filter fun p => decide (p.2 > 0)) → ∀ (i : Nat) (v : Int), ns[i]? = some v → 0 < v → ns'[i]? = some v := fun {ns ns'} l h i v hv hp => by
    have hi : i < rs.length := by rw [← l]; exact (List.getElem?_eq_some_iff.mp hv).1
    have hr := List.getElem?_eq_getElem hi
    have hm : (rs[i], v) ∈ (List.zip rs ns).filter fun p => decide (p.2 > 0) := List.mem_filter.mpr ⟨List.mem_iff_getElem?.mpr ⟨i, List.getElem?_zip_eq_some.mpr ⟨hr, hv⟩⟩, decide_eq_true hp⟩
    rw [h] at hm
    exact zip_val nd hr (List.mem_filter.mp hm).1
  refine List.ext_getElem (by rw [l, l']) fun i h1 h2 => ?_
  have e1 := List.getElem?_eq_getElem h1
  have e2 := List.getElem?_eq_getElem h2
  have p1 := h0 _ (List.getElem_mem h1)
  have p2 := h0' _ (List.getElem_mem h2)
  by_cases q1 : 0 < ns[i]
  · have := half l h i _ e1 q1
    rw [e2] at this
    exact (Option.some.inj
            this).symm
  · by_cases q2 : 0 < ns'[i]
    · have := half l' h.symm i _ e2 q2
      rw [e1] at this
      exact Option.some.inj this
    · omega
theorem text_inj {ms ms' : List (List Nat)} {ns ns' : List Int} (N : Names ms) (N' : Names ms') (S : Shs ms ns) (S' : Shs ms' ns') (h : textS ms ns = textS ms' ns') : ms = ms' ∧ ns = ns' := by
  have no44 : ∀ {ms : List (List Nat)}, Names ms → ∀ x ∈ ms, 44 ∉ x := fun N x hx hm => (letters_no 44 ((N.hn x hx).hc 44 hm)).2 rfl
  have join_no : ∀ {ms : List (List Nat)}, (∀ x ∈ ms, 10 ∉ x) → 10 ∉ joinS [44, 32] ms := fun {ms} => by
    induction ms with
    | nil => intro _; exact fun h => by cases h
    | cons x r ih =>
      intro hx
      cases r with
      | nil => exact hx x List.mem_cons_self
      | cons y r =>
        intro hm
        have hm : 10 ∈ x ++ [44, 32] ++ joinS [44, 32] (y :: r) := hm
        rw [List.mem_append, List.mem_append] at hm
        rcases hm with (hm | hm) | hm
        · exact hx x List.mem_cons_self hm
        · exact absurd hm (by decide)
        · exact ih (fun z hz => hx z (List.mem_cons_of_mem _ hz)) hm
  have head_no : ∀ {ms : List (List Nat)}, Names ms → 10 ∉ [109, 97, 114, 107, 115, 32] ++ joinS [44, 32] ms := fun {ms} N hm => by
    rcases List.mem_append.mp
            hm with hm | hm
    · exact absurd hm (by decide)
    · exact join_no (fun x hx hc => (letters_no 10 ((N.hn x hx).hc 10 hc)).1 rfl) hm
  have zrow : ∀ {ms : List (List Nat)} {ns : List Int} {p : List Nat × Int}, p ∈ ((List.zip (rowsN ms.length) ns).filter fun p => decide (p.2 > 0)) → Row ms.length p.1 ∧ 0 ≤ p.2 := fun {ms ns p} hp => by
    obtain ⟨h1, h2⟩ := List.mem_filter.mp hp
    have h2 := of_decide_eq_true h2
    exact ⟨row_mem (List.of_mem_zip h1).1, by omega⟩
  have lines_no : ∀ {ms : List (List Nat)} {ns : List Int}, ∀ l ∈ linesS ms ns, 10 ∉ l := fun {ms ns} l hl => by
    obtain ⟨p, hp,
            rfl⟩ := List.mem_map.mp hl
    exact line_no (zrow hp).1
  unfold textS at h
  have hall := join_inj (c := 10) (s := []) (by simp) (by simp) (fun x hx => by
    rcases List.mem_cons.mp
            hx with rfl | hx
    · exact head_no N
    · exact lines_no x hx) (fun x hx => by
    rcases List.mem_cons.mp
            hx with rfl | hx
    · exact head_no N'
    · exact lines_no x hx) h
  obtain ⟨e1, e2⟩ := List.cons.inj hall
  have n0 : ∀ {ms : List (List Nat)}, Names ms → ms ≠ [] := fun {ms} N e => by have := N.h0; rw [e] at this; exact absurd this (by decide)
  have em : ms = ms' := join_inj (c := 44) (s := [32]) (n0 N) (n0 N') (no44 N) (no44 N') (List.append_cancel_left e1)
  subst em
  refine ⟨rfl, ?_⟩
  have e3 := map_inj_on (P := fun p => Row ms.length p.1 ∧ 0 ≤ p.2) (fun a b ha hb => line_inj ha.1 hb.1 ha.2 hb.2) (fun p hp => zrow hp) (fun p hp => zrow hp) e2
  have hrl : (rowsN ms.length).length = 2 ^ ms.length := rows_cnt S.m4
  exact nums_eq (rows_nodup S.m4) (by rw [S.nl, hrl]) (by rw [S'.nl, hrl]) (fun v hv => (S.nb v hv).1) (fun v hv => (S'.nb v hv).1) e3
end LW
end
section
set_option Elab.async false
set_option linter.all false
set_option maxRecDepth 100000
set_option maxHeartbeats 400001
set_option exponentiation.threshold 3000
namespace LW
open Mu PySem
/-! law k24: limits and samples -/
theorem name_by {m : List Nat} (h : (decide (0 < m.length) && decide (m.length ≤ 8) && m.all fun c => decide (c ∈ letters)) = true) : Name m := by
  simp only [Bool.and_eq_true, decide_eq_true_eq, List.all_eq_true] at h
  exact ⟨h.1.1, h.1.2, h.2⟩
abbrev msA : List (List Nat) := [[97], [98]]
abbrev msL : List (List Nat) := [[108, 97, 109, 112], [100, 111, 111, 114]]
abbrev nsLike : List Int := [2, 1, 1, 2]
abbrev nsOdd : List Int := [1, 2, 2, 1]
abbrev nsLamps : List Int := [3, 1, 0, 2]
theorem nm_A : Names msA := ⟨by decide, by decide, fun m hm => by
  simp only [List.mem_cons,
          List.not_mem_nil, or_false] at hm
  rcases hm with rfl | rfl <;> exact name_by (by decide +kernel), by decide⟩
theorem nm_L : Names msL := ⟨by decide, by decide, fun m hm => by
  simp only [List.mem_cons,
          List.not_mem_nil, or_false] at hm
  rcases hm with rfl | rfl <;> exact name_by (by decide +kernel), by decide⟩
theorem sh_like : Shs msA nsLike := ⟨by decide, by decide, by decide, by decide⟩
theorem sh_odd : Shs msA nsOdd := ⟨by decide, by decide, by decide, by decide⟩
theorem sh_lamps : Shs msL nsLamps := ⟨by decide, by decide, by decide, by decide⟩
theorem a_like {d : Nat} {st : Sto} : run pg D (d + 5) n_like [] st = .ok (shT msA nsLike) st := by
  have e : instNew pg (run pg D (d + 4)) 0 [.tup [.str [97], .str [98]], .tup [.int 2, .int 1, .int 1, .int 2]] st = .ok (shT msA nsLike) st := s_mk nm_A sh_like (by decide)
  rw [go_like]
  simp only [XS, XE, XT, XI, XG, XN, XB, XQ, XU, XJ, XL, XO, XP, XA, XK, XK2, XK3, XK4, XK5, XK6, XK7, XK9, XK10, XK11, Option.map_some, Option.bind_some, Bool.not_true, Bool.not_false, if_true, XR, XD, XW, XGS, XZ, XM, XIN, XN2, Nat.reduceLT, List.set_cons_zero, List.set_cons_succ, List.length_cons, List.length_nil, Nat.zero_add, Nat.reduceAdd, b_like, e]
  exact end_rt0 (pu_sh _ _)
theorem a_odd {d : Nat} {st : Sto} : run pg D (d + 5) n_odd [] st = .ok (shT msA nsOdd) st := by
  have e : instNew pg (run pg D (d + 4)) 0 [.tup [.str [97], .str [98]], .tup [.int 1, .int 2, .int 2, .int 1]] st = .ok (shT msA nsOdd) st := s_mk nm_A sh_odd (by decide)
  rw [go_odd]
  simp only [XS, XE, XT, XI, XG, XN, XB, XQ, XU, XJ, XL, XO, XP, XA, XK, XK2, XK3, XK4, XK5, XK6, XK7, XK9, XK10, XK11, Option.map_some, Option.bind_some, Bool.not_true, Bool.not_false, if_true, XR, XD, XW, XGS, XZ, XM, XIN, XN2, Nat.reduceLT, List.set_cons_zero, List.set_cons_succ, List.length_cons, List.length_nil, Nat.zero_add, Nat.reduceAdd, b_odd, e]
  exact end_rt0 (pu_sh _ _)
theorem a_lamps {d : Nat} {st : Sto} : run pg D (d + 5) n_lamps [] st = .ok (shT msL nsLamps) st := by
  have e : instNew pg (run pg D (d + 4)) 0 [.tup [.str [108, 97, 109, 112], .str [100, 111, 111, 114]], .tup [.int 3, .int 1, .int 0, .int 2]] st = .ok (shT msL nsLamps) st := s_mk nm_L sh_lamps (by decide)
  rw [go_lamps]
  simp only [XS, XE, XT, XI, XG, XN, XB, XQ, XU, XJ, XL, XO, XP, XA, XK, XK2, XK3, XK4, XK5, XK6, XK7, XK9, XK10, XK11, Option.map_some, Option.bind_some, Bool.not_true, Bool.not_false, if_true, XR, XD, XW, XGS, XZ, XM, XIN, XN2, Nat.reduceLT, List.set_cons_zero, List.set_cons_succ, List.length_cons, List.length_nil, Nat.zero_add, Nat.reduceAdd, b_lamps, e]
  exact end_rt0 (pu_sh _ _)
theorem a_txt {d : Nat} {st : Sto} {ms : List (List Nat)} {ns : List Int} (N : Names ms) (S : Shs ms ns) : run pg D (d + 3) n_Shares_text [shT ms ns] st = .ok (.str (textS ms ns)) st := by
  rw [go_Shares_text]
  simp only [XS, XE, XT, XI, XG, XN, XB, XQ, XU, XJ, XL, XO, XP, XA, XK, XK2, XK3, XK4, XK5, XK6, XK7, XK9, XK10, XK11, Option.map_some, Option.bind_some, Bool.not_true, Bool.not_false, if_true, XR, XD, XW, XGS, XZ, XM, XIN, XN2, Nat.reduceLT, List.set_cons_zero, List.set_cons_succ, List.length_cons, List.length_nil, Nat.zero_add, Nat.reduceAdd, b_Shares_text, fld_marks, fld_numbers, a_text N S]
  refine end_rt0 ?_
  rfl
theorem own_some {st : Sto} {ms : List (List Nat)} {ns : List Int} : (ownF pg st f___eq__ (shT ms ns)).isSome = true := by rw [own_eq]; rfl
theorem ne_bl {st : Sto} {b : Bool} : cmpT st .NotEq (.bl b) (.bl b) = some false := by cases b <;> rfl
/-- one sample beside the drawn shares -/
def smp : List (List (List Nat) × List Int) := [(msA, nsLike), (msA, nsOdd), (msL, nsLamps)]
theorem smp_ok : ∀ p ∈ smp, Names p.1 ∧ Shs p.1 p.2 ∧ p.2.length = 4 := fun p hp => by
  simp only [smp, List.mem_cons, List.not_mem_nil, or_false] at hp
  rcases hp with rfl | rfl | rfl
  · exact ⟨nm_A, sh_like, rfl⟩
  · exact ⟨nm_A, sh_odd, rfl⟩
  · exact ⟨nm_L, sh_lamps, rfl⟩
theorem a_loop {d : Nat} {st : Sto} {ms : List (List Nat)} {ns : List Int} {v0 v2 v3 : Option T} (N : Names ms) (S : Shs ms ns) :
    ∃ y, exFor (.nm 3) (exs pg (run pg D (d + 3)) b__law_right_1) (smp.map fun p => shT p.1 p.2) [v0, some (shT ms ns), v2, v3] st = .nx [v0, some (shT ms ns), v2, y] st := by
  obtain ⟨env', s', e, rfl, y, rfl⟩ := exFor_at0 (g := .nm 3) (body := exs pg (run pg D (d + 3)) b__law_right_1) (fun i env s1 => s1 = st ∧ ∃ y, env = [v0, some (shT ms ns), v2, y]) (ts := smp.map fun p => shT p.1 p.2)
    (env := [v0, some (shT ms ns), v2, v3]) (st := st) ⟨rfl, v3, rfl⟩ (by
      rintro i t ht env s1 ⟨rfl, y, rfl⟩
      obtain ⟨p, hp, rfl⟩ := List.mem_map.mp (List.mem_of_getElem? ht)
      obtain ⟨N', S', _⟩ := smp_ok p hp
      have q : KeqO2 pg (run pg D (d + 3)) false f___eq__ (shT p.1 p.2) (shT ms ns) s1 = .ok (.bl (decide (p.1 = ms) && decide (p.2 = ns))) s1 := by
        show R.bind (eqOR pg _ false _ _ _ _) _ = _
        rw [eqO_at (k := false) own_eq oth_sh (a_eq (d := d + 2) N' N)]
        simp [R.bind]
      have t1 := a_txt (d := d) (st := s1) N' S'
      have t2 := a_txt (d := d) (st := s1) N S
      have hb : decide (textS p.1 p.2 = textS ms ns) = (decide (p.1 = ms) && decide (p.2 = ns)) := by
        by_cases h : p.1 = ms ∧ p.2 = ns
        · rw [h.1, h.2]
          simp
        · have h1 : ¬ textS p.1 p.2 = textS ms ns := fun e => h (text_inj N' N S' S e)
          rw [decide_eq_false h1]
          symm
          rw [Bool.and_eq_false_iff]
          by_cases k : p.1 = ms
          · exact .inr (decide_eq_false fun k2 => h ⟨k, k2⟩)
          · exact .inl (decide_eq_false k)
      refine ⟨_, rfl, [v0, some (shT ms ns), v2, some (shT p.1 p.2)], s1, ?_, rfl, _, rfl⟩
      simp only [XS, XE, XT, XI, XG, XN, XB, XQ, XU, XJ, XL, XO, XP, XA, XK, XK2, XK3, XK4, XK5, XK6, XK7, XK9, XK10, XK11, Option.map_some, Option.bind_some, Bool.not_true, Bool.not_false, if_true, XR, XD, XW, XGS, XZ, XM, XIN, XN2, Nat.reduceLT, List.set_cons_zero, List.set_cons_succ, List.length_cons, List.length_nil, Nat.zero_add, Nat.reduceAdd, b__law_right_1, q, a_textAt, t1, t2, hb, ne_bl])
  exact ⟨y, e⟩
theorem a_right {d n : Nat} {st : Sto} (h : HasJ st n) : ∃ st', run pg D (d + 9) n__law_right [.cell n] st = .ok (.bl true) st' := by
  obtain ⟨ms, ns, s1, e1, g, N, m4, S, hs⟩ := a_shares (d := d + 4) (most := 3) h (by decide) (by decide)
  have e1 : run pg D (d + 8) n__law_shares [.cell n, .int 3] st = .ok (.lst [.tup (ms.map .str), .tup (ns.map .int)]) s1 := e1
  have e2 := a_made (d := d + 3) (st := s1) N S hs
  have l1 := a_like (d := d + 3) (st := s1)
  have l2 := a_odd (d := d + 3) (st := s1)
  have l3 := a_lamps (d := d + 3) (st := s1)
  have eqs : ∀ {ms : List (List Nat)} {ns : List Int}, Names ms → run pg D (d + 8) n_Shares___eq__ [shT ms ns, shT ms ns] s1 = .ok (.bl true) s1 := fun N => by
    rw [a_eq (d := d + 7) N N]
    simp
  have qL : KteqL2 pg (run pg D (d + 8)) true f___eq__ (.lst [shT msA nsLike, shT msA nsOdd, shT msL nsLamps]) (.lst [shT msA nsLike, shT msA nsOdd, shT msL nsLamps]) s1 = .ok false s1 :=
    eqL_at (eqL_cons own_eq oth_sh own_some (eqs nm_A) (eqL_cons own_eq oth_sh own_some (eqs nm_A) (eqL_cons own_eq oth_sh own_some (eqs nm_L) rfl)))
  have q1 : KteqO2 pg (run pg D (d + 8)) false f___eq__ (shT msA nsLike) (shT msA nsOdd) s1 = .ok false s1 := by
    show eqOR pg _ false _ _ _ _ = _
    rw [eqO_at (k := false) own_eq oth_sh (a_eq (d := d + 7) nm_A nm_A)]
    rfl
  have q2 : KteqO2 pg (run pg D (d + 8)) false f___eq__ (shT msA nsOdd) (shT msL nsLamps) s1 = .ok false s1 := by
    show eqOR pg _ false _ _ _ _ = _
    rw [eqO_at (k := false) own_eq oth_sh (a_eq (d := d + 7) nm_A nm_L)]
    rfl
  obtain ⟨y, e3⟩ := a_loop (d := d + 5) (st := s1) (v0 := some (.cell n)) (v2 := some (.lst [shT msA nsLike, shT msA nsOdd, shT msL nsLamps])) (v3 := none) N S
  have e3 : exFor (.nm 3) (exs pg (run pg D (d + 8)) b__law_right_1) [shT msA nsLike, shT msA nsOdd, shT msL nsLamps] [some (.cell n), some (shT ms ns), some (.lst [shT msA nsLike, shT msA nsOdd, shT msL nsLamps]), none] s1 =
    .nx [some (.cell n), some (shT ms ns), some (.lst [shT msA nsLike, shT msA nsOdd, shT msL nsLamps]), y] s1 := e3
  have ec : compGo (.nm 3) [3] [some (.cell n), some (shT ms ns), some (.lst [shT msA nsLike, shT msA nsOdd, shT msL nsLamps]), y] (evA pg (run pg D (d + 8)) .nil) (ev pg (run pg D (d + 8)) (.sp1 .len f___len__ (.v 3)))
      [shT msA nsLike, shT msA nsOdd, shT msL nsLamps] s1 = .ok [.int 4, .int 4, .int 4] s1 := by
    have := compGo_of (g := .nm 3) (own := [3]) (env := [some (.cell n), some (shT ms ns), some (.lst [shT msA nsLike, shT msA nsOdd, shT msL nsLamps]), y]) (cond := evA pg (run pg D (d + 8)) .nil) (elt := ev pg (run pg D (d + 8)) (.sp1 .len f___len__ (.v 3))) (st := s1)
      (fun p : List (List Nat) × List Int => shT p.1 p.2) (fun _ => T.int 4) (xs := smp) fun p hp => by
        obtain ⟨_, _, h4⟩ := smp_ok p hp
        refine ⟨_, rfl, rfl, ?_⟩
        have q : Ksp1 pg (run pg D (d + 8)) .len f___len__ (shT p.1 p.2) s1 = .ok (.int p.2.length) s1 := sp1_len own_len (a_len (d := d + 7)) (by rw [h4]; decide)
        have h4' : ((p.2.length : Nat) : Int) = 4 := by rw [h4]; rfl
        simp only [XS, XE, XT, XI, XG, XN, XB, XQ, XU, XJ, XL, XO, XP, XA, XK, XK2, XK3, XK4, XK5, XK6, XK7, XK9, XK10, XK11, Option.map_some, Option.bind_some, Bool.not_true, Bool.not_false, if_true, XR, XD, XW, XGS, XZ, XM, XIN, XN2, Nat.reduceLT, List.set_cons_zero, List.set_cons_succ, List.length_cons, List.length_nil, Nat.zero_add, Nat.reduceAdd, q, h4']
    exact this
  have heq : cmpT s1 .Eq (.lst [.int 4, .int 4, .int 4]) (.lst [.int 4, .int 4, .int 4]) = some true := by kernel_rfl
  refine ⟨s1, ?_⟩
  rw [go__law_right]
  have b3 : 3 ≤ 1000000 := by decide
  simp only [XS, XE, XT, XI, XG, XN, XB, XQ, XU, XJ, XL, XO, XP, XA, XK, XK2, XK3, XK4, XK5, XK6, XK7, XK9, XK10, XK11, Option.map_some, Option.bind_some, Bool.not_true, Bool.not_false, if_true, XR, XD, XW, XGS, XZ, XM, XIN, XN2, Nat.reduceLT, List.set_cons_zero, List.set_cons_succ, List.length_cons, List.length_nil, Nat.zero_add, Nat.reduceAdd, b__law_right, e1, e2, l1, l2, l3, qL, q1, q2, e3, ec, cmpK_f b3, heq]
  exact end_j0 h g (by rfl)
theorem lamps_text : textS msL nsLamps = [109, 97, 114, 107, 115, 32, 108, 97, 109, 112, 44, 32, 100, 111, 111, 114, 10, 48, 48, 58, 32, 51, 10, 48, 49, 58, 32, 49, 10, 49, 49, 58, 32, 50] := by
  have i3 : itoa 3 = [51] := itoa_nat 3
  have i2 : itoa 2 = [50] := itoa_nat 2
  have i1 : itoa 1 = [49] := itoa_nat 1
  show joinS [10] (_ :: List.map lineS [([48, 48], 3), ([48, 49], 1), ([49, 49], 2)]) = _
  simp only [List.map_cons, List.map_nil, lineS, i1, i2, i3]
  rfl
theorem a_law {d : Nat} {ns : List Int} : ∃ st', run pg D (d + 10) n_law [.scr ns] [] = .ok (.bl true) st' := by
  have hm : ∃ m : Nat, (if (if (3 : Int) < (ns.length : Int) then (3 : Int) else (ns.length : Int)) > (2 : Int) then (if (3 : Int) < (ns.length : Int) then (3 : Int) else (ns.length : Int)) else (2 : Int)) = (m : Int) ∧ m ≤ 3 := by
    by_cases h6 : (3 : Int) < (ns.length : Int)
    · exact ⟨3, by rw [if_pos h6]; rfl, by decide⟩
    · rw [if_neg h6]
      by_cases h2 : (ns.length : Int) > 2
      · exact ⟨ns.length, by rw [if_pos h2], by omega⟩
      · exact ⟨2, by rw [if_neg h2]; rfl, by decide⟩
  obtain ⟨m, em, hm6⟩ := hm
  obtain ⟨us, s1, ec, hu, hp, _⟩ := compGo_inv (g := .nm 1) (own := [1]) (env := [some (.scr ns), none]) (cond := evA pg (run pg D (d + 9)) .nil)
    (elt := ev pg (run pg D (d + 9)) (.cl n__law_right (.cons (.cl n__law_bag (.cons (.v 0) (.cons (.v 1) .nil))) .nil))) (fun _ => True) (fun u => u = .bl true)
    (ts := (List.range m).map fun (k : Nat) => T.int k) (st := []) trivial (by
      intro t ht s _
      obtain ⟨k, _, rfl⟩ := List.mem_map.mp ht
      obtain ⟨j, ok, ej⟩ := a_bag (d := d + 8) (k := k) (st := s) (ns := ns)
      have hj : HasJ (s ++ [some j.o]) s.length := ⟨j, ok, by simp⟩
      obtain ⟨s2, er⟩ := a_right (d := d) hj
      refine ⟨_, rfl, rfl, .bl true, s2, ?_, rfl, trivial⟩
      simp only [XS, XE, XT, XI, XG, XN, XB, XQ, XU, XJ, XL, XO, XP, XA, XK, XK2, XK3, XK4, XK5, XK6, XK7, XK9, XK10, XK11, Option.map_some, Option.bind_some, Bool.not_true, Bool.not_false, if_true, XR, XD, XW, XGS, XZ, XM, XIN, XN2, Nat.reduceLT, List.set_cons_zero, List.set_cons_succ, List.length_cons, List.length_nil, Nat.zero_add, Nat.reduceAdd, ej, er])
  have l1 := a_like (d := d + 4) (st := [])
  have l2 := a_odd (d := d + 4) (st := [])
  have l3 := a_lamps (d := d + 4) (st := [])
  have lt := a_txt (d := d + 6) (st := []) nm_L sh_lamps
  rw [lamps_text] at lt
  have hr : reprOk (.lst [.int 8, .int 4, .int 1000000000000, .int 12, .int 10]) = true := by decide +kernel
  have hp12 : (10 : Int) ^ (12 : Int).toNat = 1000000000000 := by decide
  have hpk : 0 ≤ (12 : Int) ∧ (12 : Int) ≤ 64 ∧ -mid < (10 : Int) ∧ (10 : Int) < mid := by decide
  have c1 : cmpT [] .NotEq (.lst [.tup (msA.map .str), .tup (nsLike.map .int), .tup (msA.map .str), .tup (nsOdd.map .int)]) (.lst [.tup [.str [97], .str [98]], .tup [.int 2, .int 1, .int 1, .int 2], .tup [.str [97], .str [98]], .tup [.int 1, .int 2, .int 2, .int 1]]) = some false := by kernel_rfl
  refine ⟨[], ?_⟩
  rw [go_law]
  simp only [XS, XE, XT, XI, XG, XN, XB, XQ, XU, XJ, XL, XO, XP, XA, XK, XK2, XK3, XK4, XK5, XK6, XK7, XK9, XK10, XK11, Option.map_some, Option.bind_some, Bool.not_true, Bool.not_false, if_true, XR, XD, XW, XGS, XZ, XM, XIN, XN2, Nat.reduceLT, List.set_cons_zero, List.set_cons_succ, List.length_cons, List.length_nil, Nat.zero_add, Nat.reduceAdd, b_law, b_pow hpk, hp12, bl_repr1 hr, decide_true, l1, l2, l3, fld_marks, fld_numbers, c1, a_textAt, lt, em, rng_nat (show m ≤ 1000000 by omega), ec, List.length_map, List.length_range, cmpK_f (show m ≤ 1000000 by omega), all_true hp]
  rfl
theorem law_true (ns : List Int) (_ : ns.length ≤ 63) : ∃ st', run pg D (deep + 1) n_law [.scr ns] [] = .ok (.bl true) st' := a_law (d := 11)
end LW
end
section
set_option Elab.async false
set_option linter.all false
set_option maxRecDepth 100000
set_option maxHeartbeats 0
namespace LW
open Mu PySem PySem.Spec PyProof.Rows L2
def top (i : Nat) : Stmt := PySem.Challenge.pw_wishesrise_k24_limits_and_samples.main.body.getD i (.Pass ⟨0, 0, 0, 0⟩)
def loose0 : List Str := [("_wall" : Str), ("ShapeError" : Str), ("InvalidMarks" : Str), ("InvalidNumbers" : Str), ("InvalidText" : Str), ("InvalidRow" : Str), ("MOST_NAME" : Str), ("MOST_MARKS" : Str), ("MOST_NUMBER" : Str), ("MOST_TIES" : Str), ("MOST_FACTOR" : Str), ("every_row" : Str), ("place_of" : Str), ("LETTERS" : Str), ("is_name" : Str), ("is_row" : Str), ("is_integer" : Str), ("is_share" : Str), ("check_marks" : Str), ("are_marks" : Str), ("check_numbers" : Str), ("check_row" : Str), ("MARKS_WORD" : Str), ("FIGURES" : Str), ("shares_text" : Str), ("shares_parts" : Str), ("_marks_in" : Str), ("_numbers_in" : Str), ("_number_in" : Str), ("Shares" : Str)]
def loose1 : List Str := [("like" : Str), ("odd" : Str), ("lamps" : Str), ("_law_bag" : Str), ("_law_draw" : Str), ("_law_one" : Str), ("_law_marks" : Str), ("_law_rows" : Str), ("_law_numbers" : Str), ("_law_shares" : Str), ("_law_made" : Str), ("_law_right" : Str)]
def loose : List Str := loose0 ++ loose1
abbrev dd0 : He.DefD := ⟨("every_row", none), "every_row", "every_row", defArgs (top 13), defBody (top 13), defScope (top 13), [], []⟩
abbrev dd1 : He.DefD := ⟨("is_name", none), "is_name", "is_name", defArgs (top 17), defBody (top 17), defScope (top 17), [], []⟩
abbrev dd2 : He.DefD := ⟨("is_integer", none), "is_integer", "is_integer", defArgs (top 19), defBody (top 19), defScope (top 19), [], []⟩
abbrev dd3 : He.DefD := ⟨("is_share", none), "is_share", "is_share", defArgs (top 20), defBody (top 20), defScope (top 20), [], []⟩
abbrev dd4 : He.DefD := ⟨("check_marks", none), "check_marks", "check_marks", defArgs (top 21), defBody (top 21), defScope (top 21), [], []⟩
abbrev dd5 : He.DefD := ⟨("check_numbers", none), "check_numbers", "check_numbers", defArgs (top 23), defBody (top 23), defScope (top 23), [], []⟩
abbrev dd6 : He.DefD := ⟨("shares_text", none), "shares_text", "shares_text", defArgs (top 28), defBody (top 28), defScope (top 28), [], []⟩
abbrev dd7 : He.DefD := ⟨("like", none), "like", "like", defArgs (top 36), defBody (top 36), defScope (top 36), [], []⟩
abbrev dd8 : He.DefD := ⟨("odd", none), "odd", "odd", defArgs (top 37), defBody (top 37), defScope (top 37), [], []⟩
abbrev dd9 : He.DefD := ⟨("lamps", none), "lamps", "lamps", defArgs (top 38), defBody (top 38), defScope (top 38), [], []⟩
abbrev dd10 : He.DefD := ⟨("_law_bag", none), "_law_bag", "_law_bag", defArgs (top 40), defBody (top 40), defScope (top 40), [], []⟩
abbrev dd11 : He.DefD := ⟨("_law_draw", none), "_law_draw", "_law_draw", defArgs (top 41), defBody (top 41), defScope (top 41), [], []⟩
abbrev dd12 : He.DefD := ⟨("_law_one", none), "_law_one", "_law_one", defArgs (top 42), defBody (top 42), defScope (top 42), [], []⟩
abbrev dd13 : He.DefD := ⟨("_law_marks", none), "_law_marks", "_law_marks", defArgs (top 43), defBody (top 43), defScope (top 43), [], []⟩
abbrev dd14 : He.DefD := ⟨("_law_rows", none), "_law_rows", "_law_rows", defArgs (top 44), defBody (top 44), defScope (top 44), [], []⟩
abbrev dd15 : He.DefD := ⟨("_law_numbers", none), "_law_numbers", "_law_numbers", defArgs (top 45), defBody (top 45), defScope (top 45), [], []⟩
abbrev dd16 : He.DefD := ⟨("_law_shares", none), "_law_shares", "_law_shares", defArgs (top 46), defBody (top 46), defScope (top 46), [], []⟩
abbrev dd17 : He.DefD := ⟨("_law_made", none), "_law_made", "_law_made", defArgs (top 47), defBody (top 47), defScope (top 47), [], []⟩
abbrev dd18 : He.DefD := ⟨("_law_right", none), "_law_right", "_law_right", defArgs (top 48), defBody (top 48), defScope (top 48), [], []⟩
abbrev dd19 : He.DefD := ⟨("law", none), "law", "law", defArgs (top 49), defBody (top 49), defScope (top 49), [], []⟩
abbrev dd20 : He.DefD := ⟨("Shares", some "__init__"), "__init__", "Shares.__init__", defArgs (inCls (top 34) 0), defBody (inCls (top 34) 0), defScope (inCls (top 34) 0), [], []⟩
abbrev dd21 : He.DefD := ⟨("Shares", some "__len__"), "__len__", "Shares.__len__", defArgs (inCls (top 34) 1), defBody (inCls (top 34) 1), defScope (inCls (top 34) 1), [], []⟩
abbrev dd22 : He.DefD := ⟨("Shares", some "__eq__"), "__eq__", "Shares.__eq__", defArgs (inCls (top 34) 2), defBody (inCls (top 34) 2), defScope (inCls (top 34) 2), [], []⟩
abbrev dd23 : He.DefD := ⟨("Shares", some "__str__"), "__str__", "Shares.__str__", defArgs (inCls (top 34) 3), defBody (inCls (top 34) 3), defScope (inCls (top 34) 3), [], []⟩
abbrev dd24 : He.DefD := ⟨("Shares", some "text"), "text", "Shares.text", defArgs (inCls (top 34) 7), defBody (inCls (top 34) 7), defScope (inCls (top 34) 7), [], []⟩
def dfs : List He.DefD := [dd0, dd1, dd2, dd3, dd4, dd5, dd6, dd7, dd8, dd9, dd10, dd11, dd12, dd13, dd14, dd15, dd16, dd17, dd18, dd19, dd20, dd21, dd22, dd23, dd24]
def gcFa : List He.Fa := [.int "MOST_NAME" 8, .int "MOST_MARKS" 4, .int "MOST_NUMBER" 1000000000000, .int "MOST_TIES" 12, .int "MOST_FACTOR" 10, .str "LETTERS" "abcdefghijklmnopqrstuvwxyz", .str "MARKS_WORD" "marks "]
def clFa_Shares : List He.Fa := [.cls "Shares", .mkr "Shares", .noat "Shares" "marks", .noat "Shares" "numbers", .noat "Shares" "total", .meth "Shares" "__len__", .meth "Shares" "__eq__", .meth "Shares" "text"]
def clFa : List He.Fa := clFa_Shares
def fa : List He.Fa := tb.free.map .free ++ (tb.fn.map .glo ++ (tb.gl.map .glo ++ (gcFa ++ clFa)))
def tabsL : List (Nat × He.Defn) := []
abbrev qsL : List Nat := tabsL.map fun p => p.1
def wd (K : PySem.W.Frag) : Wd := { K := K, ad := fun c => He.ga K (tb.gl.getD c Str.empty), nm := tb.name, xf := fun _ => [], cs := csOf K tabsL }
def ex (K : PySem.W.Frag) : Bool := kitB (wd K) pg.kit && ownB (wd K) pg.own
theorem sc_every_row : FnScope [("size" : Str), ("rows" : Str), ("_" : Str), ("row" : Str), ("sign" : Str)] [("size" : Str)] (defScope (top 13)) := ⟨rfl, rfl, rfl, by decide +kernel, rfl, by decide +kernel, by decide +kernel⟩
theorem ck_every_row : chSs tb [("size" : Str), ("rows" : Str), ("_" : Str), ("row" : Str), ("sign" : Str)] (defScope (top 13)) b_every_row (defBody (top 13)) = true := by decide +kernel
theorem sc_is_name : FnScope [("value" : Str), ("letter" : Str)] [("value" : Str)] (defScope (top 17)) := ⟨rfl, rfl, rfl, by decide +kernel, rfl, by decide +kernel, by decide +kernel⟩
theorem ck_is_name : chSs tb [("value" : Str), ("letter" : Str)] (defScope (top 17)) b_is_name (defBody (top 17)) = true := by decide +kernel
theorem sc_is_integer : FnScope [("value" : Str)] [("value" : Str)] (defScope (top 19)) := ⟨rfl, rfl, rfl, by decide +kernel, rfl, by decide +kernel, by decide +kernel⟩
theorem ck_is_integer : chSs tb [("value" : Str)] (defScope (top 19)) b_is_integer (defBody (top 19)) = true := by decide +kernel
theorem sc_is_share : FnScope [("value" : Str)] [("value" : Str)] (defScope (top 20)) := ⟨rfl, rfl, rfl, by decide +kernel, rfl, by decide +kernel, by decide +kernel⟩
theorem ck_is_share : chSs tb [("value" : Str)] (defScope (top 20)) b_is_share (defBody (top 20)) = true := by decide +kernel
theorem sc_check_marks : FnScope [("marks" : Str), ("index" : Str), ("mark" : Str)] [("marks" : Str)] (defScope (top 21)) := ⟨rfl, rfl, rfl, by decide +kernel, rfl, by decide +kernel, by decide +kernel⟩
theorem ck_check_marks : chSs tb [("marks" : Str), ("index" : Str), ("mark" : Str)] (defScope (top 21)) b_check_marks (defBody (top 21)) = true := by decide +kernel
theorem sc_check_numbers : FnScope [("numbers" : Str), ("many" : Str), ("index" : Str), ("number" : Str)] [("numbers" : Str), ("many" : Str)] (defScope (top 23)) := ⟨rfl, rfl, rfl, by decide +kernel, rfl, by decide +kernel, by decide +kernel⟩
theorem ck_check_numbers : chSs tb [("numbers" : Str), ("many" : Str), ("index" : Str), ("number" : Str)] (defScope (top 23)) b_check_numbers (defBody (top 23)) = true := by decide +kernel
theorem sc_shares_text : FnScope [("marks" : Str), ("numbers" : Str), ("lines" : Str), ("row" : Str), ("number" : Str)] [("marks" : Str), ("numbers" : Str)] (defScope (top 28)) := ⟨rfl, rfl, rfl, by decide +kernel, rfl, by decide +kernel, by decide +kernel⟩
theorem ck_shares_text : chSs tb [("marks" : Str), ("numbers" : Str), ("lines" : Str), ("row" : Str), ("number" : Str)] (defScope (top 28)) b_shares_text (defBody (top 28)) = true := by decide +kernel
theorem sc_like : FnScope [] [] (defScope (top 36)) := ⟨rfl, rfl, rfl, by decide +kernel, rfl, by decide +kernel, by decide +kernel⟩
theorem ck_like : chSs tb [] (defScope (top 36)) b_like (defBody (top 36)) = true := by decide +kernel
theorem sc_odd : FnScope [] [] (defScope (top 37)) := ⟨rfl, rfl, rfl, by decide +kernel, rfl, by decide +kernel, by decide +kernel⟩
theorem ck_odd : chSs tb [] (defScope (top 37)) b_odd (defBody (top 37)) = true := by decide +kernel
theorem sc_lamps : FnScope [] [] (defScope (top 38)) := ⟨rfl, rfl, rfl, by decide +kernel, rfl, by decide +kernel, by decide +kernel⟩
theorem ck_lamps : chSs tb [] (defScope (top 38)) b_lamps (defBody (top 38)) = true := by decide +kernel
theorem sc__law_bag : FnScope [("_law_script" : Str), ("_law_k" : Str), ("_law_held_cell" : Str), ("_law_seed" : Str), ("_law_this" : Str), ("_law_held_signs" : Str)] [("_law_script" : Str), ("_law_k" : Str)] (defScope (top 40)) := ⟨rfl, rfl, rfl, by decide +kernel, rfl, by decide +kernel, by decide +kernel⟩
theorem ck__law_bag : chSs tb [("_law_script" : Str), ("_law_k" : Str), ("_law_held_cell" : Str), ("_law_seed" : Str), ("_law_this" : Str), ("_law_held_signs" : Str)] (defScope (top 40)) b__law_bag (defBody (top 40)) = true := by decide +kernel
theorem sc__law_draw : FnScope [("_law_bag_here" : Str), ("_law_wide" : Str), ("_law_figure" : Str), ("_law_kept" : Str), ("_law_times" : Str)] [("_law_bag_here" : Str), ("_law_wide" : Str)] (defScope (top 41)) := ⟨rfl, rfl, rfl, by decide +kernel, rfl, by decide +kernel, by decide +kernel⟩
theorem ck__law_draw : chSs tb [("_law_bag_here" : Str), ("_law_wide" : Str), ("_law_figure" : Str), ("_law_kept" : Str), ("_law_times" : Str)] (defScope (top 41)) b__law_draw (defBody (top 41)) = true := by decide +kernel
theorem sc__law_one : FnScope [("_law_bag_here" : Str), ("_law_some" : Str)] [("_law_bag_here" : Str), ("_law_some" : Str)] (defScope (top 42)) := ⟨rfl, rfl, rfl, by decide +kernel, rfl, by decide +kernel, by decide +kernel⟩
theorem ck__law_one : chSs tb [("_law_bag_here" : Str), ("_law_some" : Str)] (defScope (top 42)) b__law_one (defBody (top 42)) = true := by decide +kernel
theorem sc__law_marks : FnScope [("_law_bag_here" : Str), ("_law_many" : Str), ("_law_pool" : Str), ("_law_k" : Str)] [("_law_bag_here" : Str), ("_law_many" : Str)] (defScope (top 43)) := ⟨rfl, rfl, rfl, by decide +kernel, rfl, by decide +kernel, by decide +kernel⟩
theorem ck__law_marks : chSs tb [("_law_bag_here" : Str), ("_law_many" : Str), ("_law_pool" : Str), ("_law_k" : Str)] (defScope (top 43)) b__law_marks (defBody (top 43)) = true := by decide +kernel
theorem sc__law_rows : FnScope [("_law_many" : Str), ("_law_found" : Str), ("_law_turn" : Str), ("_law_longer" : Str), ("_law_head" : Str)] [("_law_many" : Str)] (defScope (top 44)) := ⟨rfl, rfl, rfl, by decide +kernel, rfl, by decide +kernel, by decide +kernel⟩
theorem ck__law_rows : chSs tb [("_law_many" : Str), ("_law_found" : Str), ("_law_turn" : Str), ("_law_longer" : Str), ("_law_head" : Str)] (defScope (top 44)) b__law_rows (defBody (top 44)) = true := by decide +kernel
theorem sc__law_numbers : FnScope [("_law_bag_here" : Str), ("_law_many" : Str), ("_law_way" : Str), ("_law_some" : Str), ("_law_found" : Str), ("_law_k" : Str)] [("_law_bag_here" : Str), ("_law_many" : Str)] (defScope (top 45)) := ⟨rfl, rfl, rfl, by decide +kernel, rfl, by decide +kernel, by decide +kernel⟩
theorem ck__law_numbers : chSs tb [("_law_bag_here" : Str), ("_law_many" : Str), ("_law_way" : Str), ("_law_some" : Str), ("_law_found" : Str), ("_law_k" : Str)] (defScope (top 45)) b__law_numbers (defBody (top 45)) = true := by decide +kernel
theorem sc__law_shares : FnScope [("_law_bag_here" : Str), ("_law_most" : Str), ("_law_marks_here" : Str)] [("_law_bag_here" : Str), ("_law_most" : Str)] (defScope (top 46)) := ⟨rfl, rfl, rfl, by decide +kernel, rfl, by decide +kernel, by decide +kernel⟩
theorem ck__law_shares : chSs tb [("_law_bag_here" : Str), ("_law_most" : Str), ("_law_marks_here" : Str)] (defScope (top 46)) b__law_shares (defBody (top 46)) = true := by decide +kernel
theorem sc__law_made : FnScope [("_law_parts" : Str)] [("_law_parts" : Str)] (defScope (top 47)) := ⟨rfl, rfl, rfl, by decide +kernel, rfl, by decide +kernel, by decide +kernel⟩
theorem ck__law_made : chSs tb [("_law_parts" : Str)] (defScope (top 47)) b__law_made (defBody (top 47)) = true := by decide +kernel
theorem sc__law_right : FnScope [("_law_bag_here" : Str), ("_law_mine" : Str), ("_law_some" : Str), ("_law_each" : Str)] [("_law_bag_here" : Str)] (defScope (top 48)) := ⟨rfl, rfl, rfl, by decide +kernel, rfl, by decide +kernel, by decide +kernel⟩
theorem ck__law_right : chSs tb [("_law_bag_here" : Str), ("_law_mine" : Str), ("_law_some" : Str), ("_law_each" : Str)] (defScope (top 48)) b__law_right (defBody (top 48)) = true := by decide +kernel
theorem sc_law : FnScope [("_law_script" : Str), ("_law_k" : Str)] [("_law_script" : Str)] (defScope (top 49)) := ⟨rfl, rfl, rfl, by decide +kernel, rfl, by decide +kernel, by decide +kernel⟩
theorem ck_law : chSs tb [("_law_script" : Str), ("_law_k" : Str)] (defScope (top 49)) b_law (defBody (top 49)) = true := by decide +kernel
theorem sc_Shares___init__ : FnScope [("self" : Str), ("marks" : Str), ("numbers" : Str)] [("self" : Str), ("marks" : Str), ("numbers" : Str)] (defScope (inCls (top 34) 0)) := ⟨rfl, rfl, rfl, by decide +kernel, rfl, by decide +kernel, by decide +kernel⟩
theorem ck_Shares___init__ : chSs tb [("self" : Str), ("marks" : Str), ("numbers" : Str)] (defScope (inCls (top 34) 0)) b_Shares___init__ (defBody (inCls (top 34) 0)) = true := by decide +kernel
theorem sc_Shares___len__ : FnScope [("self" : Str)] [("self" : Str)] (defScope (inCls (top 34) 1)) := ⟨rfl, rfl, rfl, by decide +kernel, rfl, by decide +kernel, by decide +kernel⟩
theorem ck_Shares___len__ : chSs tb [("self" : Str)] (defScope (inCls (top 34) 1)) b_Shares___len__ (defBody (inCls (top 34) 1)) = true := by decide +kernel
theorem sc_Shares___eq__ : FnScope [("self" : Str), ("other" : Str)] [("self" : Str), ("other" : Str)] (defScope (inCls (top 34) 2)) := ⟨rfl, rfl, rfl, by decide +kernel, rfl, by decide +kernel, by decide +kernel⟩
theorem ck_Shares___eq__ : chSs tb [("self" : Str), ("other" : Str)] (defScope (inCls (top 34) 2)) b_Shares___eq__ (defBody (inCls (top 34) 2)) = true := by decide +kernel
theorem sc_Shares___str__ : FnScope [("self" : Str)] [("self" : Str)] (defScope (inCls (top 34) 3)) := ⟨rfl, rfl, rfl, by decide +kernel, rfl, by decide +kernel, by decide +kernel⟩
theorem ck_Shares___str__ : chSs tb [("self" : Str)] (defScope (inCls (top 34) 3)) b_Shares___str__ (defBody (inCls (top 34) 3)) = true := by decide +kernel
theorem sc_Shares_text : FnScope [("self" : Str)] [("self" : Str)] (defScope (inCls (top 34) 7)) := ⟨rfl, rfl, rfl, by decide +kernel, rfl, by decide +kernel, by decide +kernel⟩
theorem ck_Shares_text : chSs tb [("self" : Str)] (defScope (inCls (top 34) 7)) b_Shares_text (defBody (inCls (top 34) 7)) = true := by decide +kernel
section
variable {K : PySem.W.Frag} {h :
        Heap} {mg : Str → Option Value}
theorem p_every_row (c : He.SaysD fa dfs K) : ∃ fd, FunD K dd0.name dd0.qual (defArgs (top 13)) (defBody (top 13)) (defScope (top 13)) [] [] (He.ga K "every_row") fd ∧ DOk tb D (wd K) n_every_row (He.ga K "every_row") fd [("size" : Str)] := by
  obtain ⟨fd, F⟩ := c.def_ 0 (d := dd0) rfl
  exact ⟨fd, F, dok_of (w := wd K) (st := (top 13)) F D_every_row sc_every_row rfl rfl ck_every_row (fun _ _ _ _ _ _ us hl => match us, hl with | [_], _ => rfl) (isLam (st := (top 13)) (at_ := ("every_row", none)) (l := tabsL) F (by decide +kernel))⟩
theorem p_is_name (c : He.SaysD fa dfs K) : ∃ fd, FunD K dd1.name dd1.qual (defArgs (top 17)) (defBody (top 17)) (defScope (top 17)) [] [] (He.ga K "is_name") fd ∧ DOk tb D (wd K) n_is_name (He.ga K "is_name") fd [("value" : Str)] := by
  obtain ⟨fd, F⟩ := c.def_ 1 (d := dd1) rfl
  exact ⟨fd, F, dok_of (w := wd K) (st := (top 17)) F D_is_name sc_is_name rfl rfl ck_is_name (fun _ _ _ _ _ _ us hl => match us, hl with | [_], _ => rfl) (isLam (st := (top 17)) (at_ := ("is_name", none)) (l := tabsL) F (by decide +kernel))⟩
theorem p_is_integer (c : He.SaysD fa dfs K) : ∃ fd, FunD K dd2.name dd2.qual (defArgs (top 19)) (defBody (top 19)) (defScope (top 19)) [] [] (He.ga K "is_integer") fd ∧ DOk tb D (wd K) n_is_integer (He.ga K "is_integer") fd [("value" : Str)] := by
  obtain ⟨fd, F⟩ := c.def_ 2 (d := dd2) rfl
  exact ⟨fd, F, dok_of (w := wd K) (st := (top 19)) F D_is_integer sc_is_integer rfl rfl ck_is_integer (fun _ _ _ _ _ _ us hl => match us, hl with | [_], _ => rfl) (isLam (st := (top 19)) (at_ := ("is_integer", none)) (l := tabsL) F (by decide +kernel))⟩
theorem p_is_share (c : He.SaysD fa dfs K) : ∃ fd, FunD K dd3.name dd3.qual (defArgs (top 20)) (defBody (top 20)) (defScope (top 20)) [] [] (He.ga K "is_share") fd ∧ DOk tb D (wd K) n_is_share (He.ga K "is_share") fd [("value" : Str)] := by
  obtain ⟨fd, F⟩ := c.def_ 3 (d := dd3) rfl
  exact ⟨fd, F, dok_of (w := wd K) (st := (top 20)) F D_is_share sc_is_share rfl rfl ck_is_share (fun _ _ _ _ _ _ us hl => match us, hl with | [_], _ => rfl) (isLam (st := (top 20)) (at_ := ("is_share", none)) (l := tabsL) F (by decide +kernel))⟩
theorem p_check_marks (c : He.SaysD fa dfs K) : ∃ fd, FunD K dd4.name dd4.qual (defArgs (top 21)) (defBody (top 21)) (defScope (top 21)) [] [] (He.ga K "check_marks") fd ∧ DOk tb D (wd K) n_check_marks (He.ga K "check_marks") fd [("marks" : Str)] := by
  obtain ⟨fd, F⟩ := c.def_ 4 (d := dd4) rfl
  exact ⟨fd, F, dok_of (w := wd K) (st := (top 21)) F D_check_marks sc_check_marks rfl rfl ck_check_marks (fun _ _ _ _ _ _ us hl => match us, hl with | [_], _ => rfl) (isLam (st := (top 21)) (at_ := ("check_marks", none)) (l := tabsL) F (by decide +kernel))⟩
theorem p_check_numbers (c : He.SaysD fa dfs K) : ∃ fd, FunD K dd5.name dd5.qual (defArgs (top 23)) (defBody (top 23)) (defScope (top 23)) [] [] (He.ga K "check_numbers") fd ∧ DOk tb D (wd K) n_check_numbers (He.ga K "check_numbers") fd [("numbers" : Str), ("many" : Str)] := by
  obtain ⟨fd, F⟩ := c.def_ 5 (d := dd5) rfl
  exact ⟨fd, F, dok_of (w := wd K) (st := (top 23)) F D_check_numbers sc_check_numbers rfl rfl ck_check_numbers (fun _ _ _ _ _ _ us hl => match us, hl with | [_, _], _ => rfl) (isLam (st := (top 23)) (at_ := ("check_numbers", none)) (l := tabsL) F (by decide +kernel))⟩
theorem p_shares_text (c : He.SaysD fa dfs K) : ∃ fd, FunD K dd6.name dd6.qual (defArgs (top 28)) (defBody (top 28)) (defScope (top 28)) [] [] (He.ga K "shares_text") fd ∧ DOk tb D (wd K) n_shares_text (He.ga K "shares_text") fd [("marks" : Str), ("numbers" : Str)] := by
  obtain ⟨fd, F⟩ := c.def_ 6 (d := dd6) rfl
  exact ⟨fd, F, dok_of (w := wd K) (st := (top 28)) F D_shares_text sc_shares_text rfl rfl ck_shares_text (fun _ _ _ _ _ _ us hl => match us, hl with | [_, _], _ => rfl) (isLam (st := (top 28)) (at_ := ("shares_text", none)) (l := tabsL) F (by decide +kernel))⟩
theorem p_like (c : He.SaysD fa dfs K) : ∃ fd, FunD K dd7.name dd7.qual (defArgs (top 36)) (defBody (top 36)) (defScope (top 36)) [] [] (He.ga K "like") fd ∧ DOk tb D (wd K) n_like (He.ga K "like") fd [] := by
  obtain ⟨fd, F⟩ := c.def_ 7 (d := dd7) rfl
  exact ⟨fd, F, dok_of (w := wd K) (st := (top 36)) F D_like sc_like rfl rfl ck_like (fun _ _ _ _ _ _ us hl => match us, hl with | [], _ => rfl) (isLam (st := (top 36)) (at_ := ("like", none)) (l := tabsL) F (by decide +kernel))⟩
theorem p_odd (c : He.SaysD fa dfs K) : ∃ fd, FunD K dd8.name dd8.qual (defArgs (top 37)) (defBody (top 37)) (defScope (top 37)) [] [] (He.ga K "odd") fd ∧ DOk tb D (wd K) n_odd (He.ga K "odd") fd [] := by
  obtain ⟨fd, F⟩ := c.def_ 8 (d := dd8) rfl
  exact ⟨fd, F, dok_of (w := wd K) (st := (top 37)) F D_odd sc_odd rfl rfl ck_odd (fun _ _ _ _ _ _ us hl => match us, hl with | [], _ => rfl) (isLam (st := (top 37)) (at_ := ("odd", none)) (l := tabsL) F (by decide +kernel))⟩
theorem p_lamps (c : He.SaysD fa dfs K) : ∃ fd, FunD K dd9.name dd9.qual (defArgs (top 38)) (defBody (top 38)) (defScope (top 38)) [] [] (He.ga K "lamps") fd ∧ DOk tb D (wd K) n_lamps (He.ga K "lamps") fd [] := by
  obtain ⟨fd, F⟩ := c.def_ 9 (d := dd9) rfl
  exact ⟨fd, F, dok_of (w := wd K) (st := (top 38)) F D_lamps sc_lamps rfl rfl ck_lamps (fun _ _ _ _ _ _ us hl => match us, hl with | [], _ => rfl) (isLam (st := (top 38)) (at_ := ("lamps", none)) (l := tabsL) F (by decide +kernel))⟩
theorem p__law_bag (c : He.SaysD fa dfs K) : ∃ fd, FunD K dd10.name dd10.qual (defArgs (top 40)) (defBody (top 40)) (defScope (top 40)) [] [] (He.ga K "_law_bag") fd ∧ DOk tb D (wd K) n__law_bag (He.ga K "_law_bag") fd [("_law_script" : Str), ("_law_k" : Str)] := by
  obtain ⟨fd, F⟩ := c.def_ 10 (d := dd10) rfl
  exact ⟨fd, F, dok_of (w := wd K) (st := (top 40)) F D__law_bag sc__law_bag rfl rfl ck__law_bag (fun _ _ _ _ _ _ us hl => match us, hl with | [_, _], _ => rfl) (isLam (st := (top 40)) (at_ := ("_law_bag", none)) (l := tabsL) F (by decide +kernel))⟩
theorem p__law_draw (c : He.SaysD fa dfs K) : ∃ fd, FunD K dd11.name dd11.qual (defArgs (top 41)) (defBody (top 41)) (defScope (top 41)) [] [] (He.ga K "_law_draw") fd ∧ DOk tb D (wd K) n__law_draw (He.ga K "_law_draw") fd [("_law_bag_here" : Str), ("_law_wide" : Str)] := by
  obtain ⟨fd, F⟩ := c.def_ 11 (d := dd11) rfl
  exact ⟨fd, F, dok_of (w := wd K) (st := (top 41)) F D__law_draw sc__law_draw rfl rfl ck__law_draw (fun _ _ _ _ _ _ us hl => match us, hl with | [_, _], _ => rfl) (isLam (st := (top 41)) (at_ := ("_law_draw", none)) (l := tabsL) F (by decide +kernel))⟩
theorem p__law_one (c : He.SaysD fa dfs K) : ∃ fd, FunD K dd12.name dd12.qual (defArgs (top 42)) (defBody (top 42)) (defScope (top 42)) [] [] (He.ga K "_law_one") fd ∧ DOk tb D (wd K) n__law_one (He.ga K "_law_one") fd [("_law_bag_here" : Str), ("_law_some" : Str)] := by
  obtain ⟨fd, F⟩ := c.def_ 12 (d := dd12) rfl
  exact ⟨fd, F, dok_of (w := wd K) (st := (top 42)) F D__law_one sc__law_one rfl rfl ck__law_one (fun _ _ _ _ _ _ us hl => match us, hl with | [_, _], _ => rfl) (isLam (st := (top 42)) (at_ := ("_law_one", none)) (l := tabsL) F (by decide +kernel))⟩
theorem p__law_marks (c : He.SaysD fa dfs K) : ∃ fd, FunD K dd13.name dd13.qual (defArgs (top 43)) (defBody (top 43)) (defScope (top 43)) [] [] (He.ga K "_law_marks") fd ∧ DOk tb D (wd K) n__law_marks (He.ga K "_law_marks") fd [("_law_bag_here" : Str), ("_law_many" : Str)] := by
  obtain ⟨fd, F⟩ := c.def_ 13 (d := dd13) rfl
  exact ⟨fd, F, dok_of (w := wd K) (st := (top 43)) F D__law_marks sc__law_marks rfl rfl ck__law_marks (fun _ _ _ _ _ _ us hl => match us, hl with | [_, _], _ => rfl) (isLam (st := (top 43)) (at_ := ("_law_marks", none)) (l := tabsL) F (by decide +kernel))⟩
theorem p__law_rows (c : He.SaysD fa dfs K) : ∃ fd, FunD K dd14.name dd14.qual (defArgs (top 44)) (defBody (top 44)) (defScope (top 44)) [] [] (He.ga K "_law_rows") fd ∧ DOk tb D (wd K) n__law_rows (He.ga K "_law_rows") fd [("_law_many" : Str)] := by
  obtain ⟨fd, F⟩ := c.def_ 14 (d := dd14) rfl
  exact ⟨fd, F, dok_of (w := wd K) (st := (top 44)) F D__law_rows sc__law_rows rfl rfl ck__law_rows (fun _ _ _ _ _ _ us hl => match us, hl with | [_], _ => rfl) (isLam (st := (top 44)) (at_ := ("_law_rows", none)) (l := tabsL) F (by decide +kernel))⟩
theorem p__law_numbers (c : He.SaysD fa dfs K) : ∃ fd, FunD K dd15.name dd15.qual (defArgs (top 45)) (defBody (top 45)) (defScope (top 45)) [] [] (He.ga K "_law_numbers") fd ∧ DOk tb D (wd K) n__law_numbers (He.ga K "_law_numbers") fd [("_law_bag_here" : Str), ("_law_many" : Str)] := by
  obtain ⟨fd, F⟩ := c.def_ 15 (d := dd15) rfl
  exact ⟨fd, F, dok_of (w := wd K) (st := (top 45)) F D__law_numbers sc__law_numbers rfl rfl ck__law_numbers (fun _ _ _ _ _ _ us hl => match us, hl with | [_, _], _ => rfl) (isLam (st := (top 45)) (at_ := ("_law_numbers", none)) (l := tabsL) F (by decide +kernel))⟩
theorem p__law_shares (c : He.SaysD fa dfs K) : ∃ fd, FunD K dd16.name dd16.qual (defArgs (top 46)) (defBody (top 46)) (defScope (top 46)) [] [] (He.ga K "_law_shares") fd ∧ DOk tb D (wd K) n__law_shares (He.ga K "_law_shares") fd [("_law_bag_here" : Str), ("_law_most" : Str)] := by
  obtain ⟨fd, F⟩ := c.def_ 16 (d := dd16) rfl
  exact ⟨fd, F, dok_of (w := wd K) (st := (top 46)) F D__law_shares sc__law_shares rfl rfl ck__law_shares (fun _ _ _ _ _ _ us hl => match us, hl with | [_, _], _ => rfl) (isLam (st := (top 46)) (at_ := ("_law_shares", none)) (l := tabsL) F (by decide +kernel))⟩
theorem p__law_made (c : He.SaysD fa dfs K) : ∃ fd, FunD K dd17.name dd17.qual (defArgs (top 47)) (defBody (top 47)) (defScope (top 47)) [] [] (He.ga K "_law_made") fd ∧ DOk tb D (wd K) n__law_made (He.ga K "_law_made") fd [("_law_parts" : Str)] := by
  obtain ⟨fd, F⟩ := c.def_ 17 (d := dd17) rfl
  exact ⟨fd, F, dok_of (w := wd K) (st := (top 47)) F D__law_made sc__law_made rfl rfl ck__law_made (fun _ _ _ _ _ _ us hl => match us, hl with | [_], _ => rfl) (isLam (st := (top 47)) (at_ := ("_law_made", none)) (l := tabsL) F (by decide +kernel))⟩
theorem p__law_right (c : He.SaysD fa dfs K) : ∃ fd, FunD K dd18.name dd18.qual (defArgs (top 48)) (defBody (top 48)) (defScope (top 48)) [] [] (He.ga K "_law_right") fd ∧ DOk tb D (wd K) n__law_right (He.ga K "_law_right") fd [("_law_bag_here" : Str)] := by
  obtain ⟨fd, F⟩ := c.def_ 18 (d := dd18) rfl
  exact ⟨fd, F, dok_of (w := wd K) (st := (top 48)) F D__law_right sc__law_right rfl rfl ck__law_right (fun _ _ _ _ _ _ us hl => match us, hl with | [_], _ => rfl) (isLam (st := (top 48)) (at_ := ("_law_right", none)) (l := tabsL) F (by decide +kernel))⟩
theorem p_law (c : He.SaysD fa dfs K) : ∃ fd, FunD K dd19.name dd19.qual (defArgs (top 49)) (defBody (top 49)) (defScope (top 49)) [] [] (He.ga K "law") fd ∧ DOk tb D (wd K) n_law (He.ga K "law") fd [("_law_script" : Str)] := by
  obtain ⟨fd, F⟩ := c.def_ 19 (d := dd19) rfl
  exact ⟨fd, F, dok_of (w := wd K) (st := (top 49)) F D_law sc_law rfl rfl ck_law (fun _ _ _ _ _ _ us hl => match us, hl with | [_], _ => rfl) (isLam (st := (top 49)) (at_ := ("law", none)) (l := tabsL) F (by decide +kernel))⟩
theorem p_Shares___init__ (c : He.SaysD fa dfs K) : ∃ fd, FunD K dd20.name dd20.qual (defArgs (inCls (top 34) 0)) (defBody (inCls (top 34) 0)) (defScope (inCls (top 34) 0)) [] [] (He.ma K (He.ga K "Shares") "__init__") fd ∧ DOk tb D (wd K) n_Shares___init__ (He.ma K (He.ga K "Shares") "__init__") fd [("self" : Str), ("marks" : Str), ("numbers" : Str)] := by
  obtain ⟨fd, F⟩ := c.def_ 20 (d := dd20) rfl
  exact ⟨fd, F, dok_of (w := wd K) (st := (inCls (top 34) 0)) F D_Shares___init__ sc_Shares___init__ rfl rfl ck_Shares___init__ (fun _ _ _ _ _ _ us hl => match us, hl with | [_, _, _], _ => rfl) (isLam (st := (inCls (top 34) 0)) (at_ := ("Shares", some "__init__")) (l := tabsL) F (by decide +kernel))⟩
theorem p_Shares___len__ (c : He.SaysD fa dfs K) : ∃ fd, FunD K dd21.name dd21.qual (defArgs (inCls (top 34) 1)) (defBody (inCls (top 34) 1)) (defScope (inCls (top 34) 1)) [] [] (He.ma K (He.ga K "Shares") "__len__") fd ∧ DOk tb D (wd K) n_Shares___len__ (He.ma K (He.ga K "Shares") "__len__") fd [("self" : Str)] := by
  obtain ⟨fd, F⟩ := c.def_ 21 (d := dd21) rfl
  exact ⟨fd, F, dok_of (w := wd K) (st := (inCls (top 34) 1)) F D_Shares___len__ sc_Shares___len__ rfl rfl ck_Shares___len__ (fun _ _ _ _ _ _ us hl => match us, hl with | [_], _ => rfl) (isLam (st := (inCls (top 34) 1)) (at_ := ("Shares", some "__len__")) (l := tabsL) F (by decide +kernel))⟩
theorem p_Shares___eq__ (c : He.SaysD fa dfs K) : ∃ fd, FunD K dd22.name dd22.qual (defArgs (inCls (top 34) 2)) (defBody (inCls (top 34) 2)) (defScope (inCls (top 34) 2)) [] [] (He.ma K (He.ga K "Shares") "__eq__") fd ∧ DOk tb D (wd K) n_Shares___eq__ (He.ma K (He.ga K "Shares") "__eq__") fd [("self" : Str), ("other" : Str)] := by
  obtain ⟨fd, F⟩ := c.def_ 22 (d := dd22) rfl
  exact ⟨fd, F, dok_of (w := wd K) (st := (inCls (top 34) 2)) F D_Shares___eq__ sc_Shares___eq__ rfl rfl ck_Shares___eq__ (fun _ _ _ _ _ _ us hl => match us, hl with | [_, _], _ => rfl) (isLam (st := (inCls (top 34) 2)) (at_ := ("Shares", some "__eq__")) (l := tabsL) F (by decide +kernel))⟩
theorem p_Shares___str__ (c : He.SaysD fa dfs K) : ∃ fd, FunD K dd23.name dd23.qual (defArgs (inCls (top 34) 3)) (defBody (inCls (top 34) 3)) (defScope (inCls (top 34) 3)) [] [] (He.ma K (He.ga K "Shares") "__str__") fd ∧ DOk tb D (wd K) n_Shares___str__ (He.ma K (He.ga K "Shares") "__str__") fd [("self" : Str)] := by
  obtain ⟨fd, F⟩ := c.def_ 23 (d := dd23) rfl
  exact ⟨fd, F, dok_of (w := wd K) (st := (inCls (top 34) 3)) F D_Shares___str__ sc_Shares___str__ rfl rfl ck_Shares___str__ (fun _ _ _ _ _ _ us hl => match us, hl with | [_], _ => rfl) (isLam (st := (inCls (top 34) 3)) (at_ := ("Shares", some "__str__")) (l := tabsL) F (by decide +kernel))⟩
theorem p_Shares_text (c : He.SaysD fa dfs K) : ∃ fd, FunD K dd24.name dd24.qual (defArgs (inCls (top 34) 7)) (defBody (inCls (top 34) 7)) (defScope (inCls (top 34) 7)) [] [] (He.ma K (He.ga K "Shares") "text") fd ∧ DOk tb D (wd K) n_Shares_text (He.ma K (He.ga K "Shares") "text") fd [("self" : Str)] := by
  obtain ⟨fd, F⟩ := c.def_ 24 (d := dd24) rfl
  exact ⟨fd, F, dok_of (w := wd K) (st := (inCls (top 34) 7)) F D_Shares_text sc_Shares_text rfl rfl ck_Shares_text (fun _ _ _ _ _ _ us hl => match us, hl with | [_], _ => rfl) (isLam (st := (inCls (top 34) 7)) (at_ := ("Shares", some "text")) (l := tabsL) F (by decide +kernel))⟩
theorem base (X : K.In h) (G : h.Ns mainGlobals mg) (c : He.SaysD fa dfs K) (e : ex K = true) : Base (wd K) pg tb D mg := by
  obtain ⟨fd_every_row, F_every_row, o_every_row⟩ := p_every_row c
  obtain ⟨fd_is_name, F_is_name, o_is_name⟩ := p_is_name c
  obtain ⟨fd_is_integer, F_is_integer, o_is_integer⟩ := p_is_integer c
  obtain ⟨fd_is_share, F_is_share, o_is_share⟩ := p_is_share c
  obtain ⟨fd_check_marks, F_check_marks, o_check_marks⟩ := p_check_marks c
  obtain ⟨fd_check_numbers, F_check_numbers, o_check_numbers⟩ := p_check_numbers c
  obtain ⟨fd_shares_text, F_shares_text, o_shares_text⟩ := p_shares_text c
  obtain ⟨fd_like, F_like, o_like⟩ := p_like c
  obtain ⟨fd_odd, F_odd, o_odd⟩ := p_odd c
  obtain ⟨fd_lamps, F_lamps, o_lamps⟩ := p_lamps c
  obtain ⟨fd__law_bag, F__law_bag, o__law_bag⟩ := p__law_bag c
  obtain ⟨fd__law_draw, F__law_draw, o__law_draw⟩ := p__law_draw c
  obtain ⟨fd__law_one, F__law_one, o__law_one⟩ := p__law_one c
  obtain ⟨fd__law_marks, F__law_marks, o__law_marks⟩ := p__law_marks c
  obtain ⟨fd__law_rows, F__law_rows, o__law_rows⟩ := p__law_rows c
  obtain ⟨fd__law_numbers, F__law_numbers, o__law_numbers⟩ := p__law_numbers c
  obtain ⟨fd__law_shares, F__law_shares, o__law_shares⟩ := p__law_shares c
  obtain ⟨fd__law_made, F__law_made, o__law_made⟩ := p__law_made c
  obtain ⟨fd__law_right, F__law_right, o__law_right⟩ := p__law_right c
  obtain ⟨fd_law, F_law, o_law⟩ := p_law c
  obtain ⟨fd_Shares___init__, F_Shares___init__, o_Shares___init__⟩ := p_Shares___init__ c
  obtain ⟨fd_Shares___len__, F_Shares___len__, o_Shares___len__⟩ := p_Shares___len__ c
  obtain ⟨fd_Shares___eq__, F_Shares___eq__, o_Shares___eq__⟩ := p_Shares___eq__ c
  obtain ⟨fd_Shares___str__, F_Shares___str__, o_Shares___str__⟩ := p_Shares___str__ c
  obtain ⟨fd_Shares_text, F_Shares_text, o_Shares_text⟩ := p_Shares_text c
  have hfree : ∀ x ∈ tb.free, mg x = none := fun x hx => He.free_ok X G (facts_of c (List.mem_append_left _ (List.mem_map_of_mem hx)))
  have hfn : ∀ x ∈ tb.fn, mg x = some (.ref (He.ga K x)) := fun x hx => He.glo_ok X G (facts_of c (List.mem_append_right _ (List.mem_append_left _ (List.mem_map_of_mem hx))))
  have hgl : ∀ x ∈ tb.gl, mg x = some (.ref (He.ga K x)) := fun x hx => He.glo_ok X G (facts_of c (List.mem_append_right _ (List.mem_append_right _ (List.mem_append_left _ (List.mem_map_of_mem hx)))))
  have hgc : ∀ f ∈ gcFa, f.ok K = true := fun f hf => facts_of c (List.mem_append_right _ (List.mem_append_right _ (List.mem_append_right _ (List.mem_append_left _ hf))))
  have hcl : ∀ f ∈ clFa, f.ok K = true := fun f hf => facts_of c (List.mem_append_right _ (List.mem_append_right _ (List.mem_append_right _ (List.mem_append_right _ hf))))
  have hc_Shares : ∀ f ∈ clFa_Shares, f.ok K = true := fun f hf => hcl f (by unfold clFa; exact hf)
  have allF : AllI (fun j x => ∃ fd ps, PySem.W.keepIn K (.ref (He.ga K x)) = true ∧ DOk tb D (wd K) j (He.ga K x) fd ps) 0 tb.fn := ⟨⟨_, _, F_every_row.kp, o_every_row⟩, ⟨_, _, F_is_name.kp, o_is_name⟩, ⟨_, _, F_is_integer.kp, o_is_integer⟩, ⟨_, _, F_is_share.kp, o_is_share⟩, ⟨_, _, F_check_marks.kp, o_check_marks⟩, ⟨_, _, F_check_numbers.kp, o_check_numbers⟩, ⟨_, _, F_shares_text.kp, o_shares_text⟩, ⟨_, _, F_like.kp, o_like⟩, ⟨_, _, F_odd.kp, o_odd⟩, ⟨_, _, F_lamps.kp, o_lamps⟩, ⟨_, _, F__law_bag.kp, o__law_bag⟩, ⟨_, _, F__law_draw.kp, o__law_draw⟩, ⟨_, _, F__law_one.kp, o__law_one⟩, ⟨_, _, F__law_marks.kp, o__law_marks⟩, ⟨_, _, F__law_rows.kp, o__law_rows⟩, ⟨_, _, F__law_numbers.kp, o__law_numbers⟩, ⟨_, _, F__law_shares.kp, o__law_shares⟩, ⟨_, _, F__law_made.kp, o__law_made⟩, ⟨_, _, F__law_right.kp, o__law_right⟩, ⟨_, _, F_law.kp, o_law⟩, trivial⟩
  have allC : AllI (fun _ (p : Str × T) => ∃ u v, mg p.1 = some u ∧ L2.RelV v u ∧ ∀ as H, Rep (wd K) as H p.2 v) 0 tb.gc := ⟨gc_int X G (hgc _ (List.mem_of_getElem? (i := 0) rfl)), gc_int X G (hgc _ (List.mem_of_getElem? (i := 1) rfl)), gc_int X G (hgc _ (List.mem_of_getElem? (i := 2) rfl)), gc_int X G (hgc _ (List.mem_of_getElem? (i := 3) rfl)), gc_int X G (hgc _ (List.mem_of_getElem? (i := 4) rfl)), gc_str X G (hgc _ (List.mem_of_getElem? (i := 5) rfl)) (by decide +kernel), gc_str X G (hgc _ (List.mem_of_getElem? (i := 6) rfl)) (by decide +kernel), trivial⟩
  have allK : AllI (fun _ (p : Nat × List Str × List Nat) => ∃ x, tb.fn[p.1]? = some x ∧ ∃ fd ps, PySem.W.keepIn K (.ref (He.ga K x)) = true ∧ DOk tb D (wd K) p.1 (He.ga K x) fd ps ∧ KB K fd ps p.2.1 p.2.2 ∧ p.2.2.length = ps.length) 0 tb.kb := trivial
  have allKc : AllI (fun _ (p : Nat × List Str × List Nat) => ∀ cl, C p.1 = some cl → ∃ G fd ps, Mk K ((wd K).ad p.1) G ∧ DOk tb D (wd K) cl.init G fd ps ∧ KBm K fd ps p.2.1 p.2.2) 0 tb.kc := trivial
  have allKm : AllI (fun _ (p : Nat × List Str × List Nat) => ∀ c cl m, C c = some cl → (m, p.1) ∈ cl.ms → ∃ a fd ps, Meth K ((wd K).ad c) ((wd K).nm m) a ∧ DOk tb D (wd K) p.1 a fd ps ∧ KBm K fd ps p.2.1 p.2.2) 0 tb.km := trivial
  have allG : ∀ c cl, C c = some cl → Cls K ((wd K).ad c) ∧ (∀ f ∈ cl.fs, NoAttr K ((wd K).ad c) ((wd K).nm f)) ∧ (∀ f ∈ cl.fs, ∀ g, g ∈ cl.fs ∨ g ∈ cl.ms.map (·.1) → (wd K).nm f = (wd K).nm g → f = g) ∧
      (∃ G fd ps, Mk K ((wd K).ad c) G ∧ DOk tb D (wd K) cl.init G fd ps) ∧ ∀ m f, (m, f) ∈ cl.ms → ∃ a fd ps, Meth K ((wd K).ad c) ((wd K).nm m) a ∧ DOk tb D (wd K) f a fd ps := by
    intro c cl hcc
    match c, hcc with
    | 0, hcc =>
      cases hcc
      refine ⟨He.cls_ok (hc_Shares _ (List.mem_of_getElem? (i := 0) rfl)), fun f hf => ?_, fun f hf g hg e => ?_, ⟨_, _, _, He.mkr_ok (hc_Shares _ (List.mem_of_getElem? (i := 1) rfl)), o_Shares___init__⟩, fun m f hm => ?_⟩
      · simp only [List.mem_cons, List.not_mem_nil, or_false] at hf
        rcases hf with rfl | rfl | rfl
        · exact He.noat_ok (hc_Shares _ (List.mem_of_getElem? (i := 2) rfl))
        · exact He.noat_ok (hc_Shares _ (List.mem_of_getElem? (i := 3) rfl))
        · exact He.noat_ok (hc_Shares _ (List.mem_of_getElem? (i := 4) rfl))
      · exact (show ∀ f ∈ [f_marks, f_numbers, f_total], ∀ g ∈ [f_marks, f_numbers, f_total] ++ [5, 3, 4], tb.name f = tb.name g → f = g by decide +kernel) f hf g (List.mem_append.mpr hg) e
      · simp only [List.mem_cons, List.not_mem_nil, or_false, Prod.mk.injEq] at hm
        rcases hm with ⟨rfl, rfl⟩ | ⟨rfl, rfl⟩ | ⟨rfl, rfl⟩
        · exact ⟨_, _, _, He.meth_ok (hc_Shares _ (List.mem_of_getElem? (i := 5) rfl)), o_Shares___len__⟩
        · exact ⟨_, _, _, He.meth_ok (hc_Shares _ (List.mem_of_getElem? (i := 6) rfl)), o_Shares___eq__⟩
        · exact ⟨_, _, _, He.meth_ok (hc_Shares _ (List.mem_of_getElem? (i := 7) rfl)), o_Shares_text⟩
    | n + 1, hcc => cases hcc
  have hkit : KitOk (wd K) pg := kit_of ((Bool.and_eq_true _ _).mp e).1 ((Bool.and_eq_true _ _).mp e).2 fun c b r m => by
    have hx : ∀ p ∈ kit, (match p.1 with | .cls c => (C c).isSome | .ty _ => true) = true := by decide +kernel
    obtain ⟨cl, q⟩ := Option.isSome_iff_exists.mp (hx _ m)
    exact (allG c cl q).1
  exact { kit := hkit, nm := fun _ => rfl, free := hfree
          gl := fun c x hx => by
            have q : (wd K).ad c = He.ga K x := by show He.ga K (tb.gl.getD c Str.empty) = _; rw [List.getD_eq_getElem?_getD, hx]; rfl
            rw [q]; exact hgl x (List.mem_of_getElem? hx)
          gc := fun x t hx => by
            obtain ⟨i, hi, q⟩ := List.mem_iff_getElem.mp hx
            exact allC.at0 (j := i) (by rw [List.getElem?_eq_getElem hi, q])
          kb := fun f x ks pm h1 h2 => by
            obtain ⟨i, hi, q⟩ := List.mem_iff_getElem.mp h2
            obtain ⟨y, hy, fd, ps, k1, k2, k3, k4⟩ := allK.at0 (j := i) (by rw [List.getElem?_eq_getElem hi, q])
            have e : y = x := Option.some.inj (hy.symm.trans h1)
            subst e
            exact ⟨_, fd, ps, hfn _ (List.mem_of_getElem? h1), k1, k2, k3, k4⟩
          mks := by decide +kernel
          fn := fun f x hx => by
            obtain ⟨fd, ps, k1, k2⟩ := allF.at0 hx
            exact ⟨_, fd, ps, hfn _ (List.mem_of_getElem? hx), k1, k2⟩
          cls := allG
          kc := fun c cl ks pm h1 h2 => by
            obtain ⟨i, hi, q⟩ := List.mem_iff_getElem.mp h2
            exact allKc.at0 (j := i) (x := (c, ks, pm)) (by rw [List.getElem?_eq_getElem hi, q]) cl (show C c = some cl from h1)
          km := fun c cl m f ks pm h1 h2 h3 => by
            obtain ⟨i, hi, q⟩ := List.mem_iff_getElem.mp h3
            exact allKm.at0 (j := i) (x := (f, ks, pm)) (by rw [List.getElem?_eq_getElem hi, q]) c cl m (show C c = some cl from h1) h2 }
end
abbrev R : PySem.W.OpenRow := PySem.W.OpenLaw.row PySem.Challenge.rw_wishesrise_k24_limits_and_samples
abbrev hk : PySem.W.Hook := hookM 6 fa dfs ex
def ob (s : PySem.W.SharedT) : AlM := obsM 6 fa dfs ex (HandSHeadRun.getT s)
theorem ob_eq (s : PySem.W.SharedT) : ob s = hk.obs s.abs := obsM_eq (HandSHeadRun.getT_eq s)
theorem run_top (w : World) : HandSHeadRun.RunEq R (PySem.W.view R.prog [49]) hk ob 20000 loose w := by
  intro os
  kernel_rfl
end LW
open PySem
open PySem.W
open PySem.Calls
open PyProof.Rows
theorem PySem.Challenge.cw_wishesrise_k24_limits_and_samples_holds : PySem.Challenge.rw_wishesrise_k24_limits_and_samples.Holds := by
  w_on; o_law
  refine HandSHeadRun.head_any (r := OpenLaw.row PySem.Challenge.rw_wishesrise_k24_limits_and_samples) (q := view (OpenLaw.row PySem.Challenge.rw_wishesrise_k24_limits_and_samples).prog [49]) (H := LW.hk) (ob := LW.ob) (M := 20000) (loose := LW.loose) (d := HandSHeadRun.topDef (OpenLaw.row PySem.Challenge.rw_wishesrise_k24_limits_and_samples).prog 49) (kwd := []) LW.ob_eq
    (by kernel_rfl) (fun s => by kernel_rfl) LW.run_top (by kernel_rfl) (by kernel_rfl) (by kernel_rfl) (by rfl) (by first | assumption | decide +kernel) (by decide +kernel) ⟨rfl, rfl, rfl, rfl, rfl, by decide +kernel⟩ ?hw ?hc
  case hw => w_witness2
  case hc =>
    refine Mu.walkG (l := PySem.Challenge.rw_wishesrise_k24_limits_and_samples) (n := 63) (k := 2 * LW.deep + 2) (x := "_law_script") rfl (by decide) (by kernel_rfl) ⟨rfl, by decide, by decide⟩ ?F
    intro w mg fa h Y G hmg0
    obtain ⟨K, KX, c, e⟩ := Y
    have hmg : mg ("law" : PySem.Str)
            = some (.ref fa) := by
      have e : (HandSHeadRun.topDef (OpenLaw.row PySem.Challenge.rw_wishesrise_k24_limits_and_samples).prog 49).name = ("law" : PySem.Str) := by kernel_rfl
      rw [← e]
      exact hmg0
    obtain ⟨fd, F, o⟩ := LW.p_law c
    have b := LW.base KX G c e
    obtain ⟨a, fd2, ps2, h1, h2, h3⟩ := b.fn LW.n_law "law" rfl
    have ea : fa = He.ga K "law" := by
      have q := hmg.symm.trans (He.glo_ok KX G (Mu.facts_of c (List.mem_append_right _ (List.mem_append_left _ (List.mem_map_of_mem (List.mem_of_getElem? (i := LW.n_law) (show LW.tb.fn[LW.n_law]? = some "law" from rfl)))))))
      cases q
      rfl
    subst ea
    have L := Mu.law_end (n := 63) (P := (PySem.Challenge.rw_wishesrise_k24_limits_and_samples).prog) (W' := w) (d := LW.deep) b rfl rfl (fun _ => rfl) o LW.law_true
    have bb := L2.FunD.bindsA (ps := ["_law_script"]) F fun _ _ _ _ _ _ us hl => match us, hl with | [_], _ => rfl
    exact ⟨K, fd, _, KX, fun s v => bb s [v] rfl, fun H a ns hl hO hS => L.1 H a ns hl hO hS, fun base _ _ => L.2 base⟩
end

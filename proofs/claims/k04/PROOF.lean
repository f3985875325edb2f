import PyProof.Rows.All
import Wide.All
import OpenK.AllK
import Wide.FinOn
import PySem.Challenge.RW_loosemarks_k04_whole_order
import HandS.CallLocal
import HandS.Conv
import HandS.Deep
import HandS.Evl
import HandS.ExcIs
import HandS.ForExc
import HandS.ForMost
import HandS.IsInst
import HandS.Iter
import HandS.NestedK
import HandS.NoneIn
import HandS.Rev
import HandS.RevRange
import HandS.SetBool
import HandS.SetFor
import HandS.SortInts
import HandS.SortKw
import HandS.Steps
import HandS.Strs
import HandS.Style
import HandS.TupAny
import HandS.TupMul
import HandS.Walk
import HandS.Zip
import KE.DatumOrd
import KE.KItemsList
import PyProof.InstEq
import PyProof.TypeEq
set_option Elab.async false
set_option linter.all false
set_option maxRecDepth 100000
set_option maxHeartbeats 2000000
/-! list(zip(t, u)) of two tuples: every pair is a new tuple. -/
namespace LmZip
open PySem PySem.Spec PyProof.Rows RZ

/-- the zip object that has handed out the pair at a, which still lives -/
abbrev ZOwn (h : Heap) (z TI TO a : Addr) (f : Bool) : Prop :=
  h.get? z = some { cls := .type "zip", dict := none, data := .fields #[rawInt a, .bool f, .bool false, .ref TI, .ref TO], slots := #[] }

section
variable {prog : Program} {w : World} {A : Around} {E : Value → Shared → Prop} {s : Shared}

/-- the look whether the pair may be taken again: it may not -/
theorem not_free {z TI TO a : Addr} {f : Bool} {oa : Obj} {Q : Bool → Shared → Prop} (hz : ZOwn s.heap z TI TO a f) (ha : s.heap.get? a = some oa)
    (hQ : ∀ h', ZOwn h' z TI TO a true → Heap.SameBut z s.heap h' → Q false { s with heap := h' }) :
    wpAny (model prog w) A (Builtin.SmallTypes.ownedTupleIsFree (.ref z)) Q E s := by
  obtain ⟨hp, g, dr, tk, os⟩ := s
  unfold Builtin.SmallTypes.ownedTupleIsFree
  refine wpAny_bind (wpAny_field hz rfl (x := rawInt a) rfl ?_)
  show wpAny _ _ (loadIfAlive ((a : Int).toNat) >>= _) _ _ _
  rw [Int.toNat_natCast]
  refine wpAny_bind (PySem.W.kdx_alive ha ?_)
  simp only [Option.isNone_some, Bool.false_eq_true, if_false]
  refine wpAny_bind (wpAny_field hz rfl (x := .bool f) rfl ?_)
  cases f with
  | true =>
    rw [if_neg (show ¬ ((Value.bool true != Value.bool true) = true) by decide)]
    exact wpAny_bind (wpAny_pure (wpAny_pure (hQ hp hz (Heap.SameBut.refl _ _))))
  | false =>
    rw [if_pos (show (Value.bool false != Value.bool true) = true by decide)]
    refine wpAny_bind (wpAny_setField_rec hz (by simp) fun h3 e3 s3 => ?_)
    exact wpAny_pure (hQ h3 e3 s3)

/-- a further pair, while the first one lives -/
theorem more {z TI TO i1 i2 l1 l2 a : Addr} {f : Bool} {oa : Obj} {k1 k2 : Nat} {xs ys : Array Value} {x y : Value} {Q : Option Value → Shared → Prop} (D : ZipApart z TI TO i1 i2 l1 l2)
    (hz : ZOwn s.heap z TI TO a f) (ha : s.heap.get? a = some oa) (hTI : IsPair s.heap TI (.ref i1) (.ref i2))
    (h1 : s.heap.IsTupleIter i1 l1 k1) (h2 : s.heap.IsTupleIter i2 l2 k2) (hl1 : s.heap.IsTuple l1 xs) (hl2 : s.heap.IsTuple l2 ys) (hx : xs[k1]? = some x) (hy : ys[k2]? = some y)
    (hQ : ∀ h', ZOwn h' z TI TO a true → h'.IsTupleIter i1 l1 (k1 + 1) → h'.IsTupleIter i2 l2 (k2 + 1) → IsPair h' s.heap.objs.size x y → h'.objs.size = s.heap.objs.size + 1 →
      (∀ c o, c ≠ z → c ≠ i1 → c ≠ i2 → s.heap.get? c = some o → h'.get? c = some o) → Q (some (.ref s.heap.objs.size)) { s with heap := h' }) :
    wpAny (model prog w) A (pyNext (.ref z)) Q E s := by
  have hT : s.TypeIs (.ref z) "zip" := ⟨_, hz, rfl⟩
  unfold pyNext
  refine wpAny_bind (wpAny_attempt (wpAny_callSpecial?_slot (name := Str.ofString "__next__") hT F.slot_zip_next
    (wpAny_call_entry F.slot_zip_next hT F.entry_zip_next ?_ (F.args_zip_next_1 _))))
  show wpAny _ _ (field (.ref z) 2 >>= _) _ _ _
  refine wpAny_bind (wpAny_field hz rfl (x := .bool false) rfl ?_)
  show wpAny _ _ (field (.ref z) 3 >>= _) _ _ _
  refine wpAny_bind (wpAny_field hz rfl (x := .ref TI) rfl ?_)
  refine wpAny_bind (wpAny_seqItems hTI rfl ?_)
  show wpAny _ _ (Builtin.SmallTypes.ownedTupleIsFree (.ref z) >>= _) _ _ _
  refine wpAny_bind (not_free hz ha fun ha1 hz1 sb1 => ?_)
  simp only [Bool.false_eq_true, if_false]
  have eIt : ([Value.ref i1, Value.ref i2] : List Value).toArray = #[Value.ref i1, Value.ref i2] := rfl
  rw [← eIt, List.forIn_toArray]
  simp only [List.forIn_cons, List.forIn_nil]
  refine wpAny_bind (wpAny_bind (wpAny_bind (wpAny_holding ?_)))
  show wpAny _ _ (Builtin.SmallTypes.nextOf (.ref i1) >>= _) _ _ _
  refine wpAny_bind (nextOf_tuple_item (h1.extBut sb1.extBut D.i1z) (hl1.extBut sb1.extBut D.l1z) hx fun ha2 h1b sb2 => wpAny_pure ?_)
  refine wpAny_pure ?_
  refine wpAny_bind (wpAny_bind (wpAny_holding ?_))
  show wpAny _ _ (Builtin.SmallTypes.nextOf (.ref i2) >>= _) _ _ _
  refine wpAny_bind (nextOf_tuple_item ((h2.extBut sb1.extBut D.i2z).extBut sb2.extBut D.i12.symm) ((hl2.extBut sb1.extBut D.l2z).extBut sb2.extBut D.l2i1) hy fun ha3 h2b sb3 => wpAny_pure ?_)
  refine wpAny_pure ?_
  refine wpAny_pure ?_
  show wpAny _ _ (newTuple [x, y] >>= _) _ _ _
  refine wpAny_bind (wpAny_newTuple ?_)
  have up : ∀ c o, c ≠ z → c ≠ i1 → c ≠ i2 → s.heap.get? c = some o → ha3.get? c = some o := fun c o n1 n2 n3 e =>
    sb3.extBut c o n3 (sb2.extBut c o n2 (sb1.extBut c o n1 e))
  have zs : ha3.objs.size = s.heap.objs.size := by
    rw [sb3.1]
    show ha2.objs.size = _
    rw [sb2.1]
    exact sb1.1
  have hz3 : ZOwn ha3 z TI TO a true := sb3.extBut _ _ D.i2z.symm (sb2.extBut _ _ D.i1z.symm hz1)
  have n1 : (ha3.push { cls := .type "tuple", data := .seq #[x, y] }).get? ha3.objs.size = some { cls := .type "tuple", data := .seq #[x, y] } := Heap.get?_push_size _ rfl
  refine wpAny_pure ⟨_, rfl, wpAny_pure ?_⟩
  show Q (some (.ref ha3.objs.size)) _
  rw [zs]
  rw [zs] at n1
  refine hQ _ (Heap.get?_push_of_some _ hz3) ?_ ?_ n1 ?_ fun c o e1 e2 e3 e => Heap.get?_push_of_some _ (up c o e1 e2 e3 e)
  · exact (h1b.extBut sb3.extBut D.i12).at fun o e => Heap.get?_push_of_some _ e
  · exact h2b.at fun o e => Heap.get?_push_of_some _ e
  · rw [Heap.size_push, zs]
/-- the end, while the first pair lives -/
theorem last {z TI TO i1 i2 l1 l2 a : Addr} {f : Bool} {oa : Obj} {k1 k2 : Nat} {xs ys : Array Value} {Q : Option Value → Shared → Prop} (hh : A.handled = none) (D : ZipApart z TI TO i1 i2 l1 l2)
    (hz : ZOwn s.heap z TI TO a f) (ha : s.heap.get? a = some oa) (hTI : IsPair s.heap TI (.ref i1) (.ref i2))
    (h1 : s.heap.IsTupleIter i1 l1 k1) (h2 : s.heap.IsTupleIter i2 l2 k2) (hl1 : s.heap.IsTuple l1 xs) (hl2 : s.heap.IsTuple l2 ys) (hend : xs[k1]? = none ∨ ys[k2]? = none)
    (hQ : ∀ h', (∀ c o, c ≠ z → c ≠ i1 → c ≠ i2 → s.heap.get? c = some o → h'.get? c = some o) → Q none { s with heap := h' }) :
    wpAny (model prog w) A (pyNext (.ref z)) Q E s := by
  have hT : s.TypeIs (.ref z) "zip" := ⟨_, hz, rfl⟩
  have fin : ∀ (h' : Heap) (e : Addr), (∃ o, h'.get? e = some o ∧ o.cls = .type "StopIteration") → (∀ c o, c ≠ z → c ≠ i1 → c ≠ i2 → s.heap.get? c = some o → h'.get? c = some o) →
      wpAny (model prog w) A (do let b ← isInstance (.ref e) (Value.type "StopIteration"); if b = true then pure none else throw (.ref e)) Q E { s with heap := h' } := fun h' e ⟨o, ho, hc⟩ k =>
    wpAny_bind (wpAny_isInstance (T := "StopIteration") (b := true) ⟨o, ho, hc⟩ isSubtype_stop (wpAny_pure (hQ h' k)))
  unfold pyNext
  refine wpAny_bind (wpAny_attempt (wpAny_callSpecial?_slot (name := Str.ofString "__next__") hT F.slot_zip_next
    (wpAny_call_entry F.slot_zip_next hT F.entry_zip_next ?_ (F.args_zip_next_1 _))))
  show wpAny _ _ (field (.ref z) 2 >>= _) _ _ _
  refine wpAny_bind (wpAny_field hz rfl (x := .bool false) rfl ?_)
  show wpAny _ _ (field (.ref z) 3 >>= _) _ _ _
  refine wpAny_bind (wpAny_field hz rfl (x := .ref TI) rfl ?_)
  refine wpAny_bind (wpAny_seqItems hTI rfl ?_)
  show wpAny _ _ (Builtin.SmallTypes.ownedTupleIsFree (.ref z) >>= _) _ _ _
  refine wpAny_bind (not_free hz ha fun ha1 hz1 sb1 => ?_)
  simp only [Bool.false_eq_true, if_false]
  have eIt : ([Value.ref i1, Value.ref i2] : List Value).toArray = #[Value.ref i1, Value.ref i2] := rfl
  rw [← eIt, List.forIn_toArray]
  simp only [List.forIn_cons, List.forIn_nil]
  refine wpAny_bind (wpAny_bind (wpAny_bind (wpAny_holding ?_)))
  show wpAny _ _ (Builtin.SmallTypes.nextOf (.ref i1) >>= _) _ _ _
  cases hx : xs[k1]? with
  | none =>
    refine wpAny_bind (nextOf_tuple_end hh (h1.extBut sb1.extBut D.i1z) (hl1.extBut sb1.extBut D.l1z) hx fun ha2 e k2 he => ?_)
    exact fin ha2 e he fun c o n1 n2 n3 g => k2 c o n2 (sb1.extBut c o n1 g)
  | some x =>
    have hy : ys[k2]? = none := by
      rcases hend with q | q
      · rw [hx] at q
        cases q
      · exact q
    refine wpAny_bind (nextOf_tuple_item (h1.extBut sb1.extBut D.i1z) (hl1.extBut sb1.extBut D.l1z) hx fun ha2 h1b sb2 => wpAny_pure ?_)
    refine wpAny_pure ?_
    refine wpAny_bind (wpAny_bind (wpAny_holding ?_))
    show wpAny _ _ (Builtin.SmallTypes.nextOf (.ref i2) >>= _) _ _ _
    refine wpAny_bind (nextOf_tuple_end hh ((h2.extBut sb1.extBut D.i2z).extBut sb2.extBut D.i12.symm) ((hl2.extBut sb1.extBut D.l2z).extBut sb2.extBut D.l2i1) hy fun ha3 e k3 he => ?_)
    exact fin ha3 e he fun c o n1 n2 n3 g => k3 c o n3 (sb2.extBut c o n2 (sb1.extBut c o n1 g))
end

/-- the zip z in the midst of its walk (turn i), a list growing at S -/
structure Mid (h : Heap) (z TI TO i1 i2 l1 l2 S : Addr) (xs ys : Array Value) (i : Nat) : Prop where
  zip : (IsZip h z TI TO .none ∧ ∃ a b, IsPair h TO a b) ∨ ∃ (a : Addr) (f : Bool) (oa : Obj), ZOwn h z TI TO a f ∧ h.get? a = some oa ∧ a ≠ z ∧ a ≠ i1 ∧ a ≠ i2 ∧ a ≠ S
  its : IsPair h TI (.ref i1) (.ref i2)
  one : h.IsTupleIter i1 l1 i
  two : h.IsTupleIter i2 l2 i
  fst : h.IsTuple l1 xs
  snd : h.IsTuple l2 ys
/-- S is none of the zip's own -/
structure Off (z TI TO i1 i2 l1 l2 S : Addr) : Prop where
  nz : z ≠ S
  nTI : TI ≠ S
  nTO : TO ≠ S
  n1 : i1 ≠ S
  n2 : i2 ≠ S
  m1 : l1 ≠ S
  m2 : l2 ≠ S
theorem tup_keep {h h' : Heap} {l : Addr} {xs : Array Value} (p : h.IsTuple l xs) (k : ∀ o, h.get? l = some o → h'.get? l = some o) : h'.IsTuple l xs := by
  obtain ⟨o, e, r⟩ := p
  exact ⟨o, k o e, r⟩
theorem Mid.keep {h h' : Heap} {z TI TO i1 i2 l1 l2 S : Addr} {xs ys : Array Value} {i : Nat} (m : Mid h z TI TO i1 i2 l1 l2 S xs ys i) (f : Off z TI TO i1 i2 l1 l2 S) (k : ∀ b o, b ≠ S → h.get? b = some o → h'.get? b = some o) :
    Mid h' z TI TO i1 i2 l1 l2 S xs ys i where
  zip := by
    rcases m.zip with ⟨e, a, b, p⟩ | ⟨a, g, oa, e, ea, n1, n2, n3, n4⟩
    · exact .inl ⟨k _ _ f.nz e, a, b, k _ _ f.nTO p⟩
    · exact .inr ⟨a, g, oa, k _ _ f.nz e, k _ _ n4 ea, n1, n2, n3, n4⟩
  its := k _ _ f.nTI m.its
  one := m.one.at fun o e => k _ o f.n1 e
  two := m.two.at fun o e => k _ o f.n2 e
  fst := tup_keep m.fst fun o e => k _ o f.m1 e
  snd := tup_keep m.snd fun o e => k _ o f.m2 e
/-- the pairs made so far, in their places -/
structure Made (h : Heap) (lo : Addr) (xs ys : Array Value) (as : List Addr) : Prop where
  rise : as.Pairwise (· < ·)
  above : ∀ a ∈ as, lo < a
  pair : ∀ (j : Nat) (a : Addr), as[j]? = some a → ∃ x y, xs[j]? = some x ∧ ys[j]? = some y ∧ IsPair h a x y
theorem Made.there {h : Heap} {lo : Addr} {xs ys : Array Value} {as : List Addr} (g : Made h lo xs ys as) {a : Addr} (ha : a ∈ as) : a < h.objs.size := by
  obtain ⟨j, e⟩ := List.mem_iff_getElem?.mp ha
  obtain ⟨_, _, _, _, p⟩ := g.pair j a e
  exact Heap.lt_size p
theorem Made.keep {h h' : Heap} {lo : Addr} {xs ys : Array Value} {as : List Addr} (g : Made h lo xs ys as) (k : ∀ b o, lo < b → h.get? b = some o → h'.get? b = some o) : Made h' lo xs ys as :=
  ⟨g.rise, g.above, fun j a e => by
    obtain ⟨x, y, e1, e2, e3⟩ := g.pair j a e
    exact ⟨x, y, e1, e2, k a _ (g.above a (List.mem_of_getElem? e)) e3⟩⟩
theorem Made.snoc {h : Heap} {lo : Addr} {xs ys : Array Value} {as : List Addr} (g : Made h lo xs ys as) {p : Addr} {x y : Value} (hl : lo < p) (hp : ∀ a ∈ as, a < p) (ex : xs[as.length]? = some x) (ey : ys[as.length]? = some y) (e : IsPair h p x y) :
    Made h lo xs ys (as ++ [p]) where
  rise := List.pairwise_append.mpr ⟨g.rise, List.pairwise_singleton _ _, fun a ha b hb => by
    rw [List.mem_singleton.mp hb]
    exact hp a ha⟩
  above := fun a ha => by
    rcases List.mem_append.mp ha with ha | ha
    · exact g.above a ha
    · rw [List.mem_singleton.mp ha]
      exact hl
  pair := fun j b q => by
    rcases Nat.lt_trichotomy j as.length with c | c | c
    · rw [List.getElem?_append_left c] at q
      exact g.pair j b q
    · subst c
      have eb : p = b := by simpa using q
      subst eb
      exact ⟨x, y, ex, ey, e⟩
    · have nn : (as ++ [p])[j]? = none := List.getElem?_eq_none (by rw [List.length_append, List.length_singleton]; omega)
      rw [nn] at q
      cases q

section
variable {prog : Program} {w : World} {A : Around} {E : Value → Shared → Prop} {s : Shared} {z TI TO i1 i2 l1 l2 S : Addr} {xs ys : Array Value}
theorem mid_item {i : Nat} {x y : Value} {Q : Option Value → Shared → Prop} (D : ZipApart z TI TO i1 i2 l1 l2) (m : Mid s.heap z TI TO i1 i2 l1 l2 S xs ys i) (hS : S < s.heap.objs.size) (ex : xs[i]? = some x) (ey : ys[i]? = some y)
    (hQ : ∀ h', Mid h' z TI TO i1 i2 l1 l2 S xs ys (i + 1) → IsPair h' s.heap.objs.size x y → h'.objs.size = s.heap.objs.size + 1 →
      (∀ c o, c ≠ z → c ≠ TO → c ≠ i1 → c ≠ i2 → s.heap.get? c = some o → h'.get? c = some o) → Q (some (.ref s.heap.objs.size)) { s with heap := h' }) :
    wpAny (model prog w) A (pyNext (.ref z)) Q E s := by
  have lz : z < s.heap.objs.size := by
    rcases m.zip with ⟨e, _⟩ | ⟨_, _, _, e, _⟩
    · exact Heap.lt_size e
    · exact Heap.lt_size e
  have l1' : i1 < s.heap.objs.size := by
    obtain ⟨_, e, _⟩ := m.one
    exact Heap.lt_size e
  have l2' : i2 < s.heap.objs.size := by
    obtain ⟨_, e, _⟩ := m.two
    exact Heap.lt_size e
  rcases m.zip with ⟨e, a, b, p⟩ | ⟨a, f, oa, e, ea, n1, n2, n3, n4⟩
  · refine pyNext_zipT_item D e m.its p m.one m.two m.fst m.snd ex ey fun h' a1 a2 a3 a4 a5 a6 a7 => ?_
    refine hQ h' ⟨.inr ⟨s.heap.objs.size, false, _, a1, a5, Nat.ne_of_gt lz, Nat.ne_of_gt l1', Nat.ne_of_gt l2', Nat.ne_of_gt hS⟩, ?_, a3, a4, ?_, ?_⟩ a5 a6 a7
    · exact a7 _ _ D.TIz D.TITO D.TIi1 D.TIi2 m.its
    · exact tup_keep m.fst fun o q => a7 _ o D.l1z D.l1TO D.l1i1 D.l1i2 q
    · exact tup_keep m.snd fun o q => a7 _ o D.l2z D.l2TO D.l2i1 D.l2i2 q
  · refine more D e ea m.its m.one m.two m.fst m.snd ex ey fun h' a1 a3 a4 a5 a6 a7 => ?_
    refine hQ h' ⟨.inr ⟨a, true, oa, a1, a7 a oa n1 n2 n3 ea, n1, n2, n3, n4⟩, ?_, a3, a4, ?_, ?_⟩ a5 a6 fun c o q1 _ q3 q4 q => a7 c o q1 q3 q4 q
    · exact a7 _ _ D.TIz D.TIi1 D.TIi2 m.its
    · exact tup_keep m.fst fun o q => a7 _ o D.l1z D.l1i1 D.l1i2 q
    · exact tup_keep m.snd fun o q => a7 _ o D.l2z D.l2i1 D.l2i2 q
theorem mid_end {i : Nat} {Q : Option Value → Shared → Prop} (hh : A.handled = none) (D : ZipApart z TI TO i1 i2 l1 l2) (m : Mid s.heap z TI TO i1 i2 l1 l2 S xs ys i) (he : xs[i]? = none ∨ ys[i]? = none)
    (hQ : ∀ h', (∀ c o, c ≠ z → c ≠ TO → c ≠ i1 → c ≠ i2 → s.heap.get? c = some o → h'.get? c = some o) → Q none { s with heap := h' }) :
    wpAny (model prog w) A (pyNext (.ref z)) Q E s := by
  rcases m.zip with ⟨e, a, b, p⟩ | ⟨a, f, oa, e, ea, n1, n2, n3, n4⟩
  · exact pyNext_zipT_end hh D e m.its p m.one m.two m.fst m.snd he hQ
  · exact last hh D e ea m.its m.one m.two m.fst m.snd he fun h' k => hQ h' fun c o q1 _ q3 q4 q => k c o q1 q3 q4 q

/-- the loop of list.extend over it -/
theorem grow {R : Result → Shared → Prop} {n : Nat} {lo : Addr} {h₁ : Heap} (hh : A.handled = none) (D : ZipApart z TI TO i1 i2 l1 l2) (f : Off z TI TO i1 i2 l1 l2 S) (bz : z ≤ lo) (bT : TO ≤ lo) (b1 : i1 ≤ lo) (b2 : i2 ≤ lo) (bS : S ≤ lo)
    (en : n = min xs.size ys.size) (hn : n ≤ sizeLine) (res : Value)
    (hR : ∀ h' tk acc c as, (∀ b o, b ≠ S → b ≠ z → b ≠ TO → b ≠ i1 → b ≠ i2 → h₁.get? b = some o → h'.get? b = some o) → h'.get? S = some { cls := .type "list", dict := none, data := .seq acc c, slots := #[] } → as.length = n → Made h' lo xs ys as →
      acc.toList = as.map Value.ref → R (.ok (.ret res)) { s with heap := h', toks := tk }) :
    ∀ (k i : Nat) (h : Heap) (tk c : Nat) (acc : Array Value) (as : List Addr), n - i = k → i ≤ n → Mid h z TI TO i1 i2 l1 l2 S xs ys i → (∀ b o, b ≠ S → b ≠ z → b ≠ TO → b ≠ i1 → b ≠ i2 → h₁.get? b = some o → h.get? b = some o) →
      h.get? S = some { cls := .type "list", dict := none, data := .seq acc c, slots := #[] } → acc.toList = as.map Value.ref → as.length = i → Made h lo xs ys as → lo < h.objs.size →
      codeAny (model prog w) A (.builtin "list.extend.loop" ⟨[.ref S, .ref z, res], []⟩) R { s with heap := h, toks := tk } := by
  have off : ∀ {q b : Addr}, q ≤ lo → lo < b → b ≠ q := fun {q b} u v => Nat.ne_of_gt (Nat.lt_of_le_of_lt u v)
  intro k
  induction k with
  | zero =>
    intro i h tk c acc as hk hi m kp hS hacc hal hG hIs
    have hin : i = n := by omega
    have he : xs[i]? = none ∨ ys[i]? = none := by
      rcases Nat.le_total xs.size ys.size with q | q
      · exact .inl (Array.getElem?_eq_none (by omega))
      · exact .inr (Array.getElem?_eq_none (by omega))
    refine codeAny_builtin PySem.F.entry_extend_loop ?_
    rw [Around.under_plainId PySem.F.plain_extend_loop _]
    show wpAny _ A.in1 (pyNext (.ref z) >>= _) _ _ _
    refine wpAny_bind (mid_end (s := { s with heap := h, toks := tk }) (A := A.in1) (S := S) hh D m he fun h' k2 => ?_)
    refine wpAny_pure (hR h' tk acc c as (fun b o q1 q2 q3 q4 q5 e => k2 b o q2 q3 q4 q5 (kp b o q1 q2 q3 q4 q5 e)) (k2 S _ f.nz.symm f.nTO.symm f.n1.symm f.n2.symm hS) (by omega) (hG.keep fun b o hb e => ?_) hacc)
    exact k2 b o (off bz hb) (off bT hb) (off b1 hb) (off b2 hb) e
  | succ k ih =>
    intro i h tk c acc as hk hi m kp hS hacc hal hG hIs
    have q1 : i < xs.size := by omega
    have q2 : i < ys.size := by omega
    have ex : xs[i]? = some xs[i] := Array.getElem?_eq_getElem q1
    have ey : ys[i]? = some ys[i] := Array.getElem?_eq_getElem q2
    have hsz : acc.size = i := by rw [← Array.length_toList, hacc, List.length_map, hal]
    have hSl : S < h.objs.size := Heap.lt_size hS
    refine codeAny_builtin PySem.F.entry_extend_loop ?_
    rw [Around.under_plainId PySem.F.plain_extend_loop _]
    show wpAny _ A.in1 (pyNext (.ref z) >>= _) _ _ _
    refine wpAny_bind (mid_item (s := { s with heap := h, toks := tk }) (S := S) D m hSl ex ey fun h' m' ht hz k2 => ?_)
    dsimp only at ht hz k2 ⊢
    have hS' := k2 S _ f.nz.symm f.nTO.symm f.n1.symm f.n2.symm hS
    have up : ∀ b o, b ≠ S → h'.get? b = some o → (h'.update S (Obj.mapSeq (·.push (Value.ref h.objs.size)))).get? b = some o := fun b o hb e => (Heap.get?_update_other _ _ (Ne.symm hb)).trans e
    have G1 : Made h' lo xs ys as := hG.keep fun b o hb e => k2 b o (off bz hb) (off bT hb) (off b1 hb) (off b2 hb) e
    have G2 : Made h' lo xs ys (as ++ [h.objs.size]) := G1.snoc hIs (fun a ha => hG.there ha) (by rw [hal]; exact ex) (by rw [hal]; exact ey) ht
    have G3 := G2.keep (h' := h'.update S (Obj.mapSeq (·.push (Value.ref h.objs.size)))) fun b o hb e => up b o (off bS hb) e
    have up2 : (h'.update S (Obj.mapSeq (·.push (Value.ref h.objs.size)))).get? h.objs.size = _ := up _ _ (Nat.ne_of_gt hSl) ht
    show wpAny _ A.in1 (updateSeq S (·.push (Value.ref h.objs.size)) >>= _) _ _ _
    refine wpAny_bind ?_
    refine wpAny_updateSeq hS' rfl (wpAny_pure ⟨plainId_quiet PySem.F.plain_extend_loop _, ih (i + 1) _ tk _ (acc.push (Value.ref h.objs.size)) (as ++ [h.objs.size]) (by omega) (by omega) (m'.keep f up)
      (fun b o c1 c2 c3 c4 c5 e => up b o c1 (k2 b o c2 c3 c4 c5 (kp b o c1 c2 c3 c4 c5 e))) (Heap.get?_update_self _ hS' rfl) (by rw [Array.toList_push, hacc, List.map_append]; rfl) (by rw [List.length_append, hal]; rfl) G3 ?_⟩) (by rw [hsz]; omega) (by show (acc.push (Value.ref h.objs.size)).size ≤ sizeLine + 1; rw [Array.size_push, hsz]; omega)
    exact Nat.lt_trans hIs (Heap.lt_size up2)
theorem no_len : typeLookup (.type "zip") "__len__" = pure none := by
  rw [typeLookup_type, builtinLookup_eq_fast]
  kernel_rfl
theorem no_hint : typeLookup (.type "zip") "__length_hint__" = pure none := by
  rw [typeLookup_type, builtinLookup_eq_fast]
  kernel_rfl
theorem mid_type {h : Heap} {g dr tk os} {i : Nat} (m : Mid h z TI TO i1 i2 l1 l2 S xs ys i) : Shared.TypeIs ⟨h, g, dr, tk, os⟩ (.ref z) "zip" := by
  rcases m.zip with ⟨e, _⟩ | ⟨_, _, _, e, _⟩
  · exact ⟨_, e, rfl⟩
  · exact ⟨_, e, rfl⟩
theorem call_list {n : Nat} {Q : Value → Shared → Prop} (hh : A.handled = none) (D : ZipApart z TI TO i1 i2 l1 l2) (hz : IsZip s.heap z TI TO .none) (m : Mid s.heap z TI TO i1 i2 l1 l2 s.heap.objs.size xs ys 0) (lTI : TI < s.heap.objs.size) (lTO : TO < s.heap.objs.size)
    (en : n = min xs.size ys.size) (hn : n ≤ sizeLine)
    (hQ : ∀ h' tk acc c as, (∀ b o, b ≠ z → b ≠ TO → b ≠ i1 → b ≠ i2 → s.heap.get? b = some o → h'.get? b = some o) → h'.get? s.heap.objs.size = some { cls := .type "list", dict := none, data := .seq acc c, slots := #[] } → as.length = n →
      Made h' s.heap.objs.size xs ys as → acc.toList = as.map Value.ref → Q (.ref s.heap.objs.size) { s with heap := h', toks := tk }) :
    wpAny (model prog w) A (call (.type "list") [.ref z]) Q E s := by
  obtain ⟨hp, g, dr, tk0, os⟩ := s
  have lz : z < hp.objs.size := by
    rcases m.zip with ⟨e, _⟩ | ⟨_, _, _, e, _⟩
    · exact Heap.lt_size e
    · exact Heap.lt_size e
  have li1 : i1 < hp.objs.size := by
    obtain ⟨_, e, _⟩ := m.one
    exact Heap.lt_size e
  have li2 : i2 < hp.objs.size := by
    obtain ⟨_, e, _⟩ := m.two
    exact Heap.lt_size e
  have ll1 : l1 < hp.objs.size := by
    obtain ⟨_, e, _⟩ := m.fst
    exact Heap.lt_size e
  have ll2 : l2 < hp.objs.size := by
    obtain ⟨_, e, _⟩ := m.snd
    exact Heap.lt_size e
  have f : Off z TI TO i1 i2 l1 l2 hp.objs.size := ⟨Nat.ne_of_lt lz, Nat.ne_of_lt lTI, Nat.ne_of_lt lTO, Nat.ne_of_lt li1, Nat.ne_of_lt li2, Nat.ne_of_lt ll1, Nat.ne_of_lt ll2⟩
  refine callType_codes (Q₁ := fun obj q => obj = .ref hp.objs.size ∧ q = ⟨hp.push { cls := .type "list", data := .seq #[] }, g, dr, tk0, os⟩) PySem.F.called_list (PySem.F.typeCall_list_1 _) PySem.F.entry_list_init (code_list_new _ ⟨rfl, rfl⟩) fun obj q hq => ?_
  obtain ⟨rfl, rfl⟩ := hq
  have hS : (hp.push { cls := .type "list", data := .seq #[] }).get? hp.objs.size = some { cls := .type "list", data := .seq #[] } := Heap.get?_push_size _ rfl
  refine ⟨⟨_, hS, rfl⟩, PySem.F.args_list_init_2 _ _, ?_⟩
  have m1 : Mid (hp.push { cls := .type "list", data := .seq #[] }) z TI TO i1 i2 l1 l2 hp.objs.size xs ys 0 := m.keep f fun b o _ e => Heap.get?_push_of_some _ e
  have up1 : ∀ (F : Array Value → Array Value) (h : Heap) (b : Addr) (o : Obj), b ≠ hp.objs.size → h.get? b = some o → (h.update hp.objs.size (Obj.mapSeq F)).get? b = some o := fun F h b o nb e => (Heap.get?_update_other _ _ (Ne.symm nb)).trans e
  show wpAny _ A.in1.in1 (do let old ← Builtin.List.listItems (.ref hp.objs.size); Builtin.List.listUpdate (.ref hp.objs.size) (fun _ => #[]); letGo old.toList.reverse; Builtin.List.listExtendWith (.ref hp.objs.size) (.ref z) .none) _ _ _
  refine wpAny_bind ?_
  unfold Builtin.List.listItems
  refine wpAny_bind (wpAny_seqItems hS rfl (wpAny_pure ?_))
  show wpAny _ A.in1.in1 (updateSeq hp.objs.size (fun _ => #[]) >>= fun _ => letGo (#[] : Array Value).toList.reverse >>= fun _ => Builtin.List.listExtendWith (.ref hp.objs.size) (.ref z) .none) _ _ _
  refine wpAny_bind (wpAny_updateSeq hS rfl ?_)
  have hS2 := Heap.get?_update_self (Obj.mapSeq (fun _ => (#[] : Array Value))) hS rfl
  have m2 := m1.keep f (up1 (fun _ => #[]) _)
  refine wpAny_bind (wpAny_letGo ?_)
  unfold Builtin.List.listExtendWith
  refine wpAny_bind (wpAny_typeOf (mid_type m2) ?_)
  have c1 : Builtin.List.listSameRef (.ref hp.objs.size) (.ref z) = false := by simp [Builtin.List.listSameRef, f.nz.symm]
  have c2 : (Value.type "zip" == Value.type "list") = false := by decide +kernel
  have c3 : (Value.type "zip" == Value.type "tuple") = false := by decide +kernel
  simp only [c1, c2, c3, Bool.or_false, Bool.false_eq_true, if_false]
  have hz2 : IsZip ((hp.push { cls := .type "list", data := .seq #[] }).update hp.objs.size (Obj.mapSeq fun _ => (#[] : Array Value))) z TI TO .none := up1 _ _ _ _ f.nz (Heap.get?_push_of_some _ hz)
  refine wpAny_bind (wpAny_pyIter_zip hz2 ?_)
  refine wpAny_bind (wpAny_holding ?_)
  unfold Builtin.List.listLengthHint
  refine wpAny_bind (wpAny_specialOf (mid_type m2) no_len ?_)
  show wpAny _ A.in1.in1 (specialOf (Value.ref z) (Str.ofString "__length_hint__") >>= _) _ _ _
  refine wpAny_bind (wpAny_specialOf (mid_type m2) no_hint ?_)
  refine wpAny_pure ?_
  show wpAny _ A.in1.in1 (rule "list.extend.makes-room" >>= fun _ => Builtin.List.listTouch (.ref hp.objs.size) >>= fun _ => again (.builtin "list.extend.loop" ⟨[.ref hp.objs.size, .ref z, .none], []⟩)) _ _ _
  refine wpAny_bind (wpAny_rule ?_)
  refine wpAny_bind ?_
  show wpAny _ A.in1.in1 (updateSeq hp.objs.size (·.push .none) >>= fun _ => updateSeq hp.objs.size (·.pop)) _ _ _
  refine wpAny_bind (wpAny_updateSeq hS2 rfl ?_)
  have hS3 := Heap.get?_update_self (Obj.mapSeq (·.push Value.none)) hS2 rfl
  refine wpAny_updateSeq hS3 rfl ?_
  have hS4 := Heap.get?_update_self (Obj.mapSeq (·.pop)) hS3 rfl
  have m4 := (m2.keep f (up1 (·.push Value.none) _)).keep f (up1 (·.pop) _)
  refine wpAny_pure ⟨plainId_quiet PySem.F.plain_extend_loop _, ?_⟩
  have lS := Heap.lt_size hS4
  refine grow (A := A.in1) (h₁ := hp) (n := n) (lo := hp.objs.size) (s := ⟨hp, g, dr, tk0, os⟩) hh D f (Nat.le_of_lt lz) (Nat.le_of_lt lTO) (Nat.le_of_lt li1) (Nat.le_of_lt li2) (Nat.le_refl _) en hn .none (fun h' tk acc c as k e1 e2 e3 e4 => ?_) n 0 _ _ _ #[] [] (by omega) (Nat.zero_le _) m4 (fun b o q1 q2 q3 q4 q5 e => ?_) hS4 rfl rfl ⟨List.Pairwise.nil, fun _ ha => (nomatch ha), fun j a hj => by simp at hj⟩ ?_
  · exact ⟨rfl, hQ h' tk acc c as (fun b o q1 q2 q3 q4 e => k b o (Nat.ne_of_lt (Heap.lt_size e)) q1 q2 q3 q4 e) e1 e2 e3 e4⟩
  · exact up1 _ _ _ _ q1 (up1 _ _ _ _ q1 (up1 _ _ _ _ q1 (Heap.get?_push_of_some _ e)))
  · exact lS
end
end LmZip

set_option maxHeartbeats 2000000
/-! list(zip(t, u)) as an expression. -/
namespace LmZip
open PySem PySem.Spec PyProof.Rows RZ L2

/-- pairs written at their addresses -/
def putP : Hp → List Addr → List (V × V) → Hp
  | H, t :: ts, q :: qs => putP (upd H t (.tup [q.1, q.2])) ts qs
  | H, _, _ => H
theorem putP_off {c : Addr} : ∀ {ts : List Addr} {qs : List (V × V)} {H : Hp}, c ∉ ts → putP H ts qs c = H c
  | [], _, _, _ => rfl
  | _ :: _, [], _, _ => rfl
  | t :: ts, q :: qs, H, h => by
    show putP (upd H t (.tup [q.1, q.2])) ts qs c = H c
    rw [putP_off (fun z => h (List.mem_cons_of_mem _ z)), upd_ne (fun z => h (by rw [z]; exact List.mem_cons_self))]
theorem putP_at : ∀ {ts : List Addr} {qs : List (V × V)} {H : Hp}, ts.length = qs.length → ts.Nodup → ∀ {j : Nat} {t : Addr}, ts[j]? = some t → ∃ q, qs[j]? = some q ∧ putP H ts qs t = some (.tup [q.1, q.2])
  | [], _, _, _, _, j, t, e => by simp at e
  | _ :: _, [], _, h, _, _, _, _ => by cases h
  | t :: ts, q :: qs, H, h, hn, 0, u, e => by
    have e2 : t = u := by simpa using e
    subst e2
    refine ⟨q, rfl, ?_⟩
    show putP (upd H t (.tup [q.1, q.2])) ts qs t = _
    rw [putP_off (List.nodup_cons.mp hn).1, upd_same]
  | t :: ts, q :: qs, H, h, hn, j + 1, u, e => by
    have e2 : ts[j]? = some u := by simpa using e
    obtain ⟨q', e3, e4⟩ := putP_at (ts := ts) (qs := qs) (H := upd H t (.tup [q.1, q.2])) (Nat.succ.inj h) (List.nodup_cons.mp hn).2 e2
    exact ⟨q', by simpa using e3, e4⟩
theorem vals_ref : ∀ as : List Addr, Vals (as.map V.ref) (as.map Value.ref)
  | [] => .nil
  | _ :: as => .cons rfl (vals_ref as)

/-- the new list of new pairs -/
def rLz (K : PySem.W.Frag) : List V → Hp → VK → Prop := fun vs H Q => ∃ (a b : Addr) (xs ys : List V), vs = [.ref a, .ref b] ∧ SqT K H a xs ∧ SqT K H b ys ∧
  ∀ (p : Addr) (ts : List Addr), H p = none → (∀ t ∈ ts, H t = none) → p ∉ ts → ts.Nodup → ts.length = (xs.zip ys).length → Q (.ref p) (putP (upd H p (.lst (ts.map V.ref))) ts (xs.zip ys))
section
variable {X : Cx}
theorem zip_at {xs ys : List V} {us ws : List Value} (r1 : Vals xs us) (r2 : Vals ys ws) {j : Nat} {x y : Value} (ex : us.toArray[j]? = some x) (ey : ws.toArray[j]? = some y) : ∃ q : V × V, (xs.zip ys)[j]? = some q ∧ RelV q.1 x ∧ RelV q.2 y := by
  have e1 : us[j]? = some x := by simpa using ex
  have e2 : ws[j]? = some y := by simpa using ey
  cases hx : xs[j]? with
  | none => rw [r1.none_of hx] at e1; cases e1
  | some u =>
    cases hy : ys[j]? with
    | none => rw [r2.none_of hy] at e2; cases e2
    | some v =>
      obtain ⟨u', g1, g2⟩ := r1.get hx
      obtain ⟨v', g3, g4⟩ := r2.get hy
      rw [e1] at g1
      rw [e2] at g3
      cases g1
      cases g3
      exact ⟨(u, v), by rw [List.getElem?_zip_eq_some]; exact ⟨hx, hy⟩, g2, g4⟩
theorem pe_listZip {e e2 : Expr} {ta : TA} {p p2 pos pos2 : Pos} (hc : X.calm = true) (hg : Gl X "list") (hm : X.mg "list" = none) (hg2 : Gl X "zip") (hm2 : X.mg "zip" = none) (ha : PA X [e, e2] ta)
    (hs : starEach [e, e2] X.env = (false, eval e X.env) :: starEach [e2] X.env := by rfl) (hpl : (backTo pos2 (starEach [e2] X.env)).any (·.1) = false := by rfl)
    (hs1 : starEach [.Call (.Name "zip" p2) [e, e2] [] pos2] X.env = (false, eval (.Call (.Name "zip" p2) [e, e2] [] pos2) X.env) :: starEach [] X.env := by rfl) :
    PE X (.Call (.Name "list" p) [.Call (.Name "zip" p2) [e, e2] [] pos2] [] pos) (tCB (rLz X.K) ta) := by
  refine ⟨fun pins s σ H Q I h => ?_⟩
  refine wpAny_Call_Name_kw (ld_blt I hg hm PyProof.Rows.boot_list ?_)
  refine PyProof.Rows.callWith_type1 ?_ hs1 rfl
  rw [hs1]
  show wpAny _ _ (spliced ((false, eval (.Call (.Name "zip" p2) [e, e2] [] pos2) X.env) :: backTo pos (starEach [] X.env))) _ _ s
  refine Calls.spliced_cons ?_
  refine Call_ (ld_blt I hg2 hm2 PyProof.Rows.boot_zip (PyProof.Rows.callWith_type1 (thn (ha.run pos2 pins s σ H _ I h) fun us s1 ⟨vs, H1, I1, r1, q1⟩ => ?_) hs hpl))
  obtain ⟨a, b, xs, ys, rfl, hx, hy, q⟩ := q1
  obtain ⟨u1, u2, rfl, ra, rb⟩ := vals2 r1
  cases ra
  cases rb
  obtain ⟨its, rv, pt, hz1⟩ := I1.tuple hx
  obtain ⟨its2, rv2, pt2, hz2⟩ := I1.tuple hy
  obtain ⟨o1, ho1, _⟩ := id pt
  obtain ⟨o2, ho2, _⟩ := id pt2
  refine call_zipT (show s1.heap.IsTuple a its.toArray from pt) (show s1.heap.IsTuple b its2.toArray from pt2) fun h1 b1 b2 b3 b4 b5 b6 b7 => ?_
  refine Calls.spliced_nil ?_
  have D := PySem.W.ktu_apart s1.heap.objs.size a b (Heap.lt_size ho1) (Heap.lt_size ho2)
  have m : Mid h1 (s1.heap.objs.size + 4) (s1.heap.objs.size + 2) (s1.heap.objs.size + 3) s1.heap.objs.size (s1.heap.objs.size + 1) a b h1.objs.size its.toArray its2.toArray 0 :=
    ⟨.inl ⟨b1, _, _, b3⟩, b2, b4, b5, tup_keep pt fun o e => b7 a o e, tup_keep pt2 fun o e => b7 b o e⟩
  have el : its.toArray.size = xs.length := by rw [List.size_toArray]; exact rv.length.symm
  have el2 : its2.toArray.size = ys.length := by rw [List.size_toArray]; exact rv2.length.symm
  show wpAny _ _ (call (.type "list") [.ref (s1.heap.objs.size + 4)]) _ _ _
  refine call_list (s := { s1 with heap := h1 }) (n := (xs.zip ys).length) (I1.ok.hd hc) D b1 m (Heap.lt_size b2) (Heap.lt_size b3) (by rw [el, el2, List.length_zip]) (by rw [List.length_zip]; omega) fun h' tk acc cc as k1 k2 k3 G k4 => ?_
  have k0 : ∀ c o, s1.heap.get? c = some o → h'.get? c = some o := fun c o e => by
    have lt := Heap.lt_size e
    refine k1 c o ?_ ?_ ?_ ?_ (b7 c o e)
    · exact Nat.ne_of_lt (Nat.lt_of_lt_of_le lt (Nat.le_add_right _ _))
    · exact Nat.ne_of_lt (Nat.lt_of_lt_of_le lt (Nat.le_add_right _ _))
    · exact Nat.ne_of_lt lt
    · exact Nat.ne_of_lt (Nat.lt_of_lt_of_le lt (Nat.le_add_right _ _))
  have lS : s1.heap.objs.size ≤ h1.objs.size := by rw [b6]; exact Nat.le_add_right _ _
  have fS : H1 h1.objs.size = none := I1.hok.fresh lS
  have fT : ∀ t ∈ as, H1 t = none := fun t ht => I1.hok.fresh (Nat.le_trans lS (Nat.le_of_lt (G.above t ht)))
  have nS : h1.objs.size ∉ as := fun z => Nat.lt_irrefl _ (G.above _ z)
  have nd : as.Nodup := List.Pairwise.imp (fun {a b} (h : a < b) => Nat.ne_of_lt h) G.rise
  have lo : ∀ c o, s1.heap.get? c = some o → c ∉ as ∧ c ≠ h1.objs.size := fun c o e =>
    ⟨fun z => Nat.lt_irrefl _ (Nat.lt_trans (Nat.lt_of_lt_of_le (Heap.lt_size e) lS) (G.above c z)), Nat.ne_of_lt (Nat.lt_of_lt_of_le (Heap.lt_size e) lS)⟩
  have kp : ∀ c o, H1 c = some o → putP (upd H1 h1.objs.size (.lst (as.map V.ref))) as (xs.zip ys) c = some o := fun c o e => by
    rw [putP_off (fun z => by rw [fT c z] at e; cases e), upd_ne (fun z => by rw [z, fS] at e; cases e)]
    exact e
  have J : Inv X pins σ (putP (upd H1 h1.objs.size (.lst (as.map V.ref))) as (xs.zip ys)) { s1 with heap := h', toks := tk } := by
    refine I1.call' (ch := []) rfl ⟨fun c o q _ _ _ => k0 c o q, fun c o q _ _ _ => ⟨o.slots, k0 c o q⟩, fun c o q n _ => ?_, fun c o q _ => ⟨o, k0 c o q⟩, fun c xs q => kp c _ q, fun c o u q => kp c _ q, fun c ps q => ⟨#[], by rw [kp c _ q]; simp⟩⟩ (fun c u q => ?_) I1.bare fun c z => by simp at z
    · obtain ⟨z1, z2⟩ := lo c o q
      rw [putP_off z1, upd_ne z2]
      exact n
    · by_cases hb : c ∈ as
      · obtain ⟨j, ej⟩ := List.mem_iff_getElem?.mp hb
        obtain ⟨x, y, f1, f2, f3⟩ := G.pair j c ej
        obtain ⟨q', g1, g2⟩ := putP_at (H := upd H1 h1.objs.size (.lst (as.map V.ref))) (qs := xs.zip ys) k3 nd ej
        rw [g2] at q
        cases q
        obtain ⟨q2, g3, g4, g5⟩ := zip_at rv rv2 f1 f2
        rw [g1] at g3
        cases g3
        exact ⟨by show 2 ≤ sizeLine; decide, [x, y], .cons g4 (.cons g5 .nil), ⟨_, f3, rfl, _, rfl⟩⟩
      · by_cases hb2 : c = h1.objs.size
        · rw [hb2] at q ⊢
          rw [putP_off nS, upd_same] at q
          cases q
          refine ⟨by rw [List.length_map, k3, List.length_zip]; omega, acc.toList, cc, by rw [k4]; exact vals_ref as, ?_⟩
          rw [Array.toArray_toList]
          exact k2
        · rw [putP_off hb, upd_ne hb2] at q
          exact (I1.hok c u q).stay (fun d v _ y => k0 d v y) (fun d y => kp d _ y) fun d xs y => kp d _ y
  exact ⟨.ref h1.objs.size, _, J, rfl, q _ as fS fT nS nd k3⟩
end
end LmZip

set_option maxHeartbeats 2000000
/-! type(x), and types compared. -/
namespace LmType
open PySem PySem.Spec PyProof.Rows PySem.TypeEq L2
/-- the types that are met here -/
def Known (S : String) : Prop := S = "int" ∨ S = "str" ∨ S = "bool" ∨ S = "NoneType" ∨ S = "list" ∨ S = "tuple" ∨ S = "dict"
theorem Known.is {S : String} (k : Known S) (s' : Shared) : s'.TypeIs (.type S) "type" := by
  rcases k with rfl | rfl | rfl | rfl | rfl | rfl | rfl
  · exact meta_int s'
  · exact meta_str s'
  · exact meta_bool s'
  · exact meta_NoneType s'
  · exact meta_list s'
  · exact meta_tuple s'
  · exact meta_dict s'
theorem Known.beq {S T : String} (k : Known S) (l : Known T) : (Value.type S == Value.type T) = decide (S = T) := by
  rcases k with rfl | rfl | rfl | rfl | rfl | rfl | rfl <;> rcases l with rfl | rfl | rfl | rfl | rfl | rfl | rfl <;> decide +kernel
theorem Known.notFn {S : String} (k : Known S) : (Value.type S == Value.type "builtin_function_or_method") = false := by
  rcases k with rfl | rfl | rfl | rfl | rfl | rfl | rfl <;> decide +kernel
theorem slot_ne : Slot "type" (cmpInfo .NotEq).2.1 "object.__ne__" :=
  .of (owner := "object") (n := "__ne__") (by rw [typeLookup_type, builtinLookup_eq_fast]; kernel_rfl) (by decide +kernel) (by decide +kernel) (by decide +kernel)
    (by first | exact .inl (by decide +kernel) | exact .inr (by decide +kernel)) (by rw [isSubtype_type]; kernel_rfl)
section
variable {prog : Program} {w : World} {A : Around} {E : Value → Shared → Prop} {s : Shared} {S T : String}
theorem ne_call {Q : Value → Shared → Prop} (k : Known S) (l : Known T) (h1 : S = T → Q (.bool false) s) (h2 : S ≠ T → Q .notImplemented s) :
    wpAny (model prog w) A (call (.builtin "object.__ne__") [.type S, .type T]) Q E s := by
  refine wpAny_call (codeAny_call_builtin slot_ne.plain F.cmpEntry_ne (slot_ne.check _ _ _ _ _ _ _ _ (k.is s) (F.cmpArgs_ne _ _) ?_))
  unfold Builtin.«object.__ne__»
  refine wpAny_bind (wpAny_of_eq (a := ((Value.type S : Value), [Value.type T])) (by first | rfl | (simp only [slotArgs]; rfl)) ?_)
  refine wpAny_bind (wpAny_cRoomFor_or (.inl rfl) ?_)
  refine wpAny_bind (wpAny_callSpecialIfBound?_slot (name := Str.ofString "__eq__") (k.is s) slot_type_eq ?_)
  by_cases e : S = T
  · subst e
    exact call_gives slot_type_eq (k.is s) F.entry_object_eq (F.args_object_eq_2 _ _) (object_eq_same rfl (by simp)) (wpAny_bind (wpAny_truthy_bool (wpAny_pure (h1 rfl))))
  · exact call_gives slot_type_eq (k.is s) F.entry_object_eq (F.args_object_eq_2 _ _) (object_eq_other rfl (by rw [k.beq l]; exact decide_eq_false e)) (wpAny_pure (h2 e))
theorem ne_type {Q : Value → Shared → Prop} (k : Known S) (l : Known T) (h : Q (.bool (!decide (S = T))) s) : wpAny (model prog w) A (compareOp .NotEq (.type S) (.type T)) Q E s := by
  show wpAny _ A (richCompare .NotEq _ _) Q E s
  by_cases e : S = T
  · rw [decide_eq_true e] at h
    refine wpAny_richCompare_same (T := "type") (k.is s) (l.is s) slot_ne (ne_call k l (fun _ => ⟨(by intro e; cases e), h⟩) fun n => absurd e n)
  · rw [decide_eq_false e] at h
    have sl := slot_ne
    rcases hi : cmpInfo CmpOp.NotEq with ⟨sym, f, r⟩
    have er : r = f := by
      cases hi
      rfl
    subst er
    rw [hi] at sl
    simp only [richCompare, hi, (k.is s).oneThing_none]
    refine wpAny_holding ?_
    refine wpAny_bind (wpAny_cRoomFor_or (.inl rfl) ?_)
    refine wpAny_bind (wpAny_typeOf (k.is s) (wpAny_bind (wpAny_typeOf (l.is s) ?_)))
    simp only [bne_self_eq_false, Bool.false_eq_true, if_false, pure_bind, Bool.not_false, if_true]
    refine wpAny_bind (m := tryCompare (Value.type S) _ (Value.type T)) (wpAny_tryCompare_declines (k.is s) sl (ne_call k l (fun q => absurd q e) fun _ => ⟨rfl, ?_⟩))
    refine wpAny_bind (m := tryCompare (Value.type T) _ (Value.type S)) (wpAny_tryCompare_declines (l.is s) sl (ne_call l k (fun q => absurd q.symm e) fun _ => ⟨rfl, ?_⟩))
    refine wpAny_bind (wpAny_rule (wpAny_bind (wpAny_of_eq (isSame_plain rfl) (wpAny_pure ?_))))
    rw [k.beq l, decide_eq_false e]
    exact h
theorem eq_type {Q : Value → Shared → Prop} (k : Known S) (l : Known T) (h : Q (.bool (decide (S = T))) s) : wpAny (model prog w) A (compareOp .Eq (.type S) (.type T)) Q E s := by
  by_cases e : S = T
  · subst e
    rw [decide_eq_true rfl] at h
    exact eq_type_same k.is h
  · rw [decide_eq_false e] at h
    exact eq_type_other k.is l.is (by rw [k.beq l]; exact decide_eq_false e) h
end
/-- the type of a value -/
inductive TyA (H : Hp) : V → String → Prop
  | non : TyA H .non "NoneType"
  | bl (b : Bool) : TyA H (.bl b) "bool"
  | int (i : Int) : TyA H (.int i) "int"
  | str (x : Str) : TyA H (.str x) "str"
  | lst {a : Addr} {xs : List V} (e : H a = some (.lst xs)) : TyA H (.ref a) "list"
  | tup {a : Addr} {xs : List V} (e : Rd H a (.tup xs)) : TyA H (.ref a) "tuple"
  | dic {a : Addr} {kvs : List (Key × V)} (e : H a = some (.dK kvs)) : TyA H (.ref a) "dict"
theorem TyA.known {H : Hp} {x : V} {T : String} (t : TyA H x T) : Known T := by
  unfold Known
  cases t <;> simp
section
variable {X : Cx}
theorem TyA.is {pins : List (Addr × Obj)} {σ : L2.St} {H : Hp} {s : Shared} {x : V} {u : Value} {T : String} (t : TyA H x T) (I : Inv X pins σ H s) (r : RelV x u) : s.TypeIs u T := by
  cases t with
  | non =>
    cases r
    exact typeIs_none s
  | bl b =>
    cases r
    exact PySem.typeIs_bool s b
  | int i =>
    obtain ⟨k, rfl⟩ := r
    exact typeIs_int s i k
  | str z =>
    obtain ⟨k, rfl⟩ := r
    exact typeIs_str s z k
  | lst e =>
    cases r
    obtain ⟨its, rv, p, _⟩ := I.list (.inl (.inl e))
    exact p.isList.typeIs
  | tup e =>
    cases r
    obtain ⟨its, rv, p, _⟩ := I.tuple (.inl e)
    exact p.typeIs
  | @dic a kvs e =>
    cases r
    obtain ⟨_, _, vs, _, p⟩ := (show ObjOk X.prog X.w H s.heap a (.dK kvs) from I.hok a _ e)
    exact p.typeIs
/-- type(x) -/
def rType : List V → Hp → VK → Prop := fun xs H Q => ∃ (x : V) (T : String), xs = [x] ∧ TyA H x T ∧ Q (.ty T) H
theorem call_type : CallR X (.type "type") rType := by
  intro pins s σ H xs us Q I r h
  obtain ⟨x, T, rfl, t, q⟩ := h
  obtain ⟨u, rfl, rx⟩ := vals1 r
  exact call_type_of (t.is I rx) t.known.notFn ⟨.ty T, H, I, rfl, q⟩
def rEqTy : R2 := fun x y H Q => ∃ S T, x = .ty S ∧ y = .ty T ∧ Known S ∧ Known T ∧ Q (.bl (decide (S = T))) H
def rNeTy : R2 := fun x y H Q => ∃ S T, x = .ty S ∧ y = .ty T ∧ Known S ∧ Known T ∧ Q (.bl (!decide (S = T))) H
theorem op_eqTy : OpR X (compareOp .Eq) rEqTy := by
  intro pins s σ H x y v u Q I rx ry h
  obtain ⟨S, T, rfl, rfl, k, l, q⟩ := h
  cases rx
  cases ry
  exact eq_type k l ⟨.bl _, H, I, rfl, q⟩
theorem op_neTy : OpR X (compareOp .NotEq) rNeTy := by
  intro pins s σ H x y v u Q I rx ry h
  obtain ⟨S, T, rfl, rfl, k, l, q⟩ := h
  cases rx
  cases ry
  exact ne_type k l ⟨.bl _, H, I, rfl, q⟩
end
end LmType

set_option maxHeartbeats 2000000
/-! A caught error of an own class that is kept beyond its except clause. -/
namespace LmExc
open PySem PySem.Spec PyProof.Rows L2
/-- an error of the class at D, without a dict of its own, stands at a -/
def ErrO (D a : Addr) : HO := .ext fun h => ∃ (oe : Obj) (vs : Array Value), h.get? a = some oe ∧ Zc (.ref D) none oe ∧ oe.data = .fields vs
theorem errO_ok {P : Program} {w : World} {H : Hp} {h : Heap} {a D : Addr} {oe : Obj} {vs : Array Value} (e : h.get? a = some oe) (z : Zc (.ref D) none oe) (d : oe.data = .fields vs) : ObjOk P w H h a (ErrO D a) :=
  ⟨⟨oe, vs, e, z, d⟩, ⟨oe, e⟩, fun _ _ ⟨o, v, q, r⟩ k => ⟨o, v, k o q, r⟩⟩
section
variable {X : Cx} {pins : List (Addr × Obj)} {σ : L2.St} {H : Hp} {s : Shared}
/-- an object that is new since the entry, untracked so far, is tracked -/
theorem track {a : Addr} {o : HO} {u : Obj} {vs : Array Value} (I : Inv X pins σ H s) (n0 : X.s_0.heap.get? a = none) (hn : H a = none) (hu : s.heap.get? a = some u) (hd : u.data = .fields vs) (hL : a ≠ X.env.locals) (hp : ∀ p ∈ X.pn ++ pins, p.1 ≠ a)
    (new : ObjOk X.prog X.w (upd H a o) s.heap a o) : Inv X pins σ (upd H a o) s := by
  have ne0 : ∀ b v, X.s_0.heap.get? b = some v → b ≠ a := fun b v e z => by
    rw [z, n0] at e
    cases e
  have kp : ∀ b v, H b = some v → upd H a o b = some v := fun b v e => by
    rw [upd_ne (ne_of_none e hn)]
    exact e
  refine ⟨I.ok, I.os, I.bare, ⟨I.base.keep, I.base.slot, fun b v e n hx => ?_, I.base.there, fun b xs e => kp b _ (I.base.tups b xs e), fun b v u e => kp b _ (I.base.frzs b v u e), fun b ps e => ?_⟩, I.loc, I.cell, ?_, fun x c e => ?_, fun p hm => ?_, fun b v e => ?_, I.len⟩
  · rw [upd_ne (ne0 b v e)]
    exact I.base.free b v e n hx
  · obtain ⟨m, q⟩ := I.base.tbls b ps e
    exact ⟨m, kp b _ q⟩
  · rw [upd_ne hL.symm]
    exact I.free
  · obtain ⟨v, ob, q, r⟩ := I.cell x c e
    rw [upd_ne (fun z => by rw [z, hu] at q; cases q; rw [hd] at r; cases r)]
    exact I.freeC x c e
  · obtain ⟨h1, h2, h3⟩ := I.pin p hm
    exact ⟨h1, by rw [upd_ne (hp p hm)]; exact h2, h3⟩
  · by_cases hb : b = a
    · subst hb
      rw [upd_same] at e
      cases e
      exact new
    · rw [upd_ne hb] at e
      exact (I.hok b v e).stay (fun c w _ q => q) (fun c q => kp c _ q) fun c xs q => kp c _ q
theorem toSuite (I : Inv X pins σ H s) (a : Addr) : Inv (X.suite a (X.pn ++ pins)) [] σ H s :=
  ⟨I.ok.suite _ _, I.os, I.bare, I.base, I.loc, I.cell, I.free, I.freeC, fun p hp => I.pin p (by rw [List.append_nil] at hp; exact hp), I.hok, I.len⟩
theorem ofSuite {a : Addr} (I : Inv (X.suite a (X.pn ++ pins)) [] σ H s) (ok : X.Ok) : Inv X pins σ H s :=
  ⟨ok, I.os, I.bare, I.base, I.loc, I.cell, I.free, I.freeC, fun p hp => I.pin p (by rw [List.append_nil]; exact hp), I.hok, I.len⟩
end
/-- what the clause wishes of an error of the body: it is one of its class's, and the suite goes on with it, slot i its name -/
def wHeld (K : PySem.W.Frag) (c : Value) (i : Nat) (ts : Addr → TS) (D : Ends) : WX := fun cls d σ H =>
  ∃ C, cls = .ref C ∧ d = none ∧ PySem.W.exmOne K cls c = some true ∧ ∀ a, H a = none →
    ts a { nx := fun σ' H' => D.nx (σ'.set i none) H', rt := D.rt, bk := fun σ' H' => D.bk (σ'.set i none) H', ct := fun σ' H' => D.ct (σ'.set i none) H' } (σ.set i (some (.ref a))) (upd H a (ErrO C a))
section
variable {X : Cx} {x n : Str} {c : Value} {i : Nat} {body suite : List Stmt} {b₀ : Stmt} {np pos pos' : Pos} {tb : WX → TS} {ts : Addr → TS}
theorem ps_try_held (hs : X.stack = X.env :: X.outer) (hf : X.env.frame = some X.env.locals) (hex : X.ex = []) (hN : X.N.Nodup) (hi : X.N[i]? = some n) (hln : X.env.kindOf n = some .local) (hc : Names X x c)
    (hb : ∀ (W : WX) (pn : List (Addr × Obj)) (xe : Value → Shared → Prop), Takes (X.tr pn xe) W → PassesOwn (model X.prog X.w) X.A X.env xe → PSs (X.tr pn xe) body (tb W))
    (hsu : ∀ (a : Addr) (pn : List (Addr × Obj)), PSs (X.suite a pn) (b₀ :: suite) (ts a)) :
    PS X (.Try body [.ExceptHandler (some (.Name x np)) (some n) (b₀ :: suite) pos'] [] [] pos) (fun D σ H => tb (wHeld X.K c i ts D) D σ H) := by
  refine ⟨fun pins s σ H D I h => ?_⟩
  have ok := I.ok
  have hfr : X.A.frames = some (X.env :: X.outer) := by rw [ok.frames, hs]
  refine wpAny_Try_except ?_
  have run := (hb (wHeld X.K c i ts D) (X.pn ++ pins) (fun e q1 => wpAny (model X.prog X.w) X.A (noteFrame e X.env) (fun _ q2 => wpAny (model X.prog X.w) X.A (setFlight e none) (fun _ q3 =>
    wpAny (model X.prog X.w) X.A (handleBy e X.env [.ExceptHandler (some (.Name x np)) (some n) (b₀ :: suite) pos']) (SP X pins D) X.xe q3) X.xe q2) X.xe q1) (fun u s' xx => ?_) PassesOwn.looking).run [] s σ H D (I.toTry _) h
  · refine wpAny_mono run (fun f q hsp => ?_) (fun _ _ z => z)
    cases f with
    | next =>
      obtain ⟨σ2, H2, J, q⟩ := hsp
      exact wpAny_execs_nil ⟨σ2, H2, J.ofTry ok, q⟩
    | brk =>
      obtain ⟨σ2, H2, J, q⟩ := hsp
      exact ⟨σ2, H2, J.ofTry ok, q⟩
    | cont =>
      obtain ⟨σ2, H2, J, q⟩ := hsp
      exact ⟨σ2, H2, J.ofTry ok, q⟩
    | ret u =>
      obtain ⟨v, σ2, H2, J, r, q⟩ := hsp
      exact ⟨v, σ2, H2, J.ofTry ok, r, q⟩
  · obtain ⟨a, B, sI, pins2, σ2, H2, cls, d, rfl, J0, nb, up, sky, na, os, ag, C, ecls, ed, hm, go⟩ := xx
    subst ecls ed
    have J : Inv X pins σ2 H2 sI := J0.ofTry ok
    have sky2 : Sky B (X.env :: X.outer) a (Zc (.ref C) none) X.env.locals s'.heap := by rw [← hs]; exact sky
    have Ba : B.get? a = none := by
      rcases sky2 with ⟨_, q, _⟩ | ⟨_, q, _⟩ | ⟨_, q, _⟩
      · exact q
      · exact q
      · exact q
    show wpAny (model X.prog X.w) X.A (noteFrame (.ref a) X.env) _ _ _
    refine Sky.land Zc.steady hfr hf sky2 fun h3 fl3 up3 => ?_
    have J3 : Inv X pins σ2 H2 { s' with heap := h3 } := J.landed nb fl3.1 (up.trans up3) os ag
    obtain ⟨oe3, vs3, he3, hz3, hd3⟩ := fl3.there
    have nfr : a ∉ frs (X.env :: X.outer) := fun hmem => by
      obtain ⟨_, o', e', hnf⟩ := fl3.2.2.1.mem hmem
      rw [he3] at e'
      cases e'
      exact hnf _ hd3
    have nI : sI.heap.get? a = none := by
      cases q : sI.heap.get? a with
      | none => rfl
      | some o =>
        have z := nb a o q (by rw [hs]; exact nfr)
        rw [Ba] at z
        cases z
    have n0 : X.s_0.heap.get? a = none := by
      cases q : X.s_0.heap.get? a with
      | none => rfl
      | some o =>
        obtain ⟨o', z⟩ := J.base.there a o q (by rw [hex]; exact fun z => nomatch z)
        rw [nI] at z
        cases z
    have nL : a ≠ X.env.locals := fun z => nfr (List.mem_filterMap.mpr ⟨X.env, List.mem_cons_self, by rw [hf, z]⟩)
    have nP : ∀ p ∈ X.pn ++ pins, p.1 ≠ a := fun p hp z => by
      have q := (J.pin p hp).1
      rw [z, nI] at q
      cases q
    have LT : PySem.W.Looks (model X.prog X.w) h3 (typeOf (.ref a)) (.ref C) := fun A Q E s k q => wpAny_typeOf_ref (k _ _ he3) (by rw [hz3.1]; exact q)
    have LM := PySem.W.exm_one (M := model X.prog X.w) J3.kIn LT hm
    have S3 := toSuite J3 a
    have test : ∀ {Q : Value → Shared → Prop} {E : Value → Shared → Prop}, Q c { s' with heap := h3 } → wpAny (model X.prog X.w) (X.A.mark (some (.ref a))) (eval (.Name x np) X.env) Q E { s' with heap := h3 } := fun {Q E} q => by
      obtain ⟨hg, hdbg, k | ⟨k, kv, kn⟩⟩ := hc
      · exact ld_glob (X := X.suite a (X.pn ++ pins)) S3 hg k q hdbg
      · exact ld_blt (X := X.suite a (X.pn ++ pins)) S3 hg k kv q kn hdbg
    refine wpAny_handleBy_cons (codeAny_handlers_test (test (LM.here (codeAny_handlers_suite_as ?_)))) (by intro q; cases q)
    refine HandSPX.lands_againZ fl3 fun h4 fl4 up4 => ?_
    have J4 : Inv X pins σ2 H2 { s' with heap := h4 } := J.landed nb fl4.1 ((up.trans up3).trans up4) os ag
    obtain ⟨oe4, vs4, he4, hz4, hd4⟩ := fl4.there
    have K4 : Inv X pins σ2 (upd H2 a (ErrO C a)) { s' with heap := h4 } := track J4 n0 na he4 hd4 nL nP (errO_ok he4 hz4 hd4)
    refine store_ok (X := X.suite a (X.pn ++ pins)) (v := .ref a) (toSuite K4 a) hN hi (.inl hln) rfl (fun s5 S5 => ?_) (.inr hln)
    refine wpAny_mono ((hsu a (X.pn ++ pins)).run [] s5 _ _ _ S5 (go a na)) (fun f s6 hsp => ?_) (fun _ _ z => False.elim z)
    have fin : ∀ {σ6 : L2.St} {H6 : Hp} {Q : Shared → Prop}, Inv (X.suite a (X.pn ++ pins)) [] σ6 H6 s6 → (∀ s7, Inv X pins (σ6.set i none) H6 s7 → Q s7) →
        wpAny (model X.prog X.w) X.A (do bindName X.env n .none; unbindBehindTheSuite X.env n pos') (fun _ s7 => Q s7) X.xe s6 := fun {σ6 H6 Q} S6 hq => gone_ok (ofSuite S6 ok) hN hi hln hq
    cases f with
    | next =>
      obtain ⟨σ6, H6, S6, q6⟩ := hsp
      exact fin S6 fun s7 J7 => ⟨_, _, J7, q6⟩
    | brk =>
      obtain ⟨σ6, H6, S6, q6⟩ := hsp
      exact fin S6 fun s7 J7 => ⟨_, _, J7, q6⟩
    | cont =>
      obtain ⟨σ6, H6, S6, q6⟩ := hsp
      exact fin S6 fun s7 J7 => ⟨_, _, J7, q6⟩
    | ret u =>
      obtain ⟨v6, σ6, H6, S6, r6, q6⟩ := hsp
      exact fin S6 fun s7 J7 => ⟨_, _, _, J7, r6, q6⟩
end
/-- isinstance(e, c), e an error that is kept -/
def rIsErr (K : PySem.W.Frag) : List V → Hp → VK → Prop := fun xs H Q => ∃ (a D : Addr) (c : V) (cv : Value) (b : Bool), xs = [.ref a, c] ∧ H a = some (ErrO D a) ∧ ExcC K D ∧ (∀ u, RelV c u → u = cv) ∧ PySem.W.kitOne K (.ref D) cv = some b ∧ Q (.bl b) H
theorem call_isErr {X : Cx} : CallR X (.builtin "isinstance") (rIsErr X.K) := by
  intro pins s σ H xs us Q I r h
  obtain ⟨a, D, c, cv, b, rfl, ha, C, hcv, e, q⟩ := h
  obtain ⟨u, w, rfl, rx, rt⟩ := vals2 r
  cases rx
  have ec := hcv _ rt
  subst ec
  obtain ⟨⟨oe, vs, hget, hz, hd⟩, _, _⟩ := I.hok a _ ha
  have J : PySem.W.InstAt s.heap a oe D none := by
    obtain ⟨oc, od, oda, osl⟩ := oe
    obtain ⟨h1, h2⟩ := hz
    dsimp only at h1 h2 hd
    subst h1 h2 hd
    exact ⟨hget, rfl, rfl, trivial⟩
  exact PySem.W.kia_one (PySem.W.handS_kitx_exc C.hg C.hk C.hs C.hd C.ha C.hn C.ht C.hm) I.kIn J e (fun z => nomatch z) fun tk => ⟨.bl b, H, I.tok tk, rfl, q⟩
/-- a local that holds a def, called in a try -/
def tCallLS (i : Nat) (f : Addr) (sp : Sp) (E : L2.St → XK) (t : TA) : TE := fun σ H Q => σ[i]? = some (some (.ref f)) ∧ t σ H fun vs H1 => sp vs H1 Q (E σ)
/-- one of several defs: the promise that goes with the address -/
structure Callee (P : Program) (w : World) (K : PySem.W.Frag) (mg : Str → Option Value) (base : Heap) (k : Nat) (f : Addr) (sp : Sp) : Prop where
  ex : ∃ (fd : FuncData) (ps : List Str), FnOk P w K mg base (L2.CX P w) k f fd ps sp ∧ PySem.W.keepIn K (.ref f) = true ∧ Binds K fd ps []
def tCallHS (i : Nat) (S : Addr → Sp → Prop) (E : L2.St → XK) (t : TA) : TE := fun σ H Q => ∃ f sp, σ[i]? = some (some (.ref f)) ∧ S f sp ∧ t σ H fun vs H1 => sp vs H1 Q (E σ)
section
variable {X : Cx} {k i : Nat} {x : Str} {p pos : Pos} {e : Expr} {es : List Expr} {t : TA} {E : L2.St → XK} {S : Addr → Sp → Prop}
theorem pe_callHS (A : ∀ f sp, S f sp → Callee X.prog X.w X.K X.mg X.base k f sp) (hr : Room k X.A) (hN : X.N[i]? = some x) (hv : Vis X.env.scope x) (hx : ∀ σ, PassesAt (L2.CX X.prog X.w) X σ (E σ)) (ha : PA X (e :: es) t)
    (hdb : (x == ("__debug__" : Str)) = false := by decide) (hcd : (x == ("__classdict__" : Str)) = false := by decide)
    (he : starEach (e :: es) X.env = (false, eval e X.env) :: starEach es X.env := by rfl) (hpl : (backTo pos (starEach es X.env)).any (·.1) = false := by rfl) : PE X (.Call (.Name x p) (e :: es) [] pos) (tCallHS i S E t) := by
  refine ⟨fun pins s σ H Q I h => ?_⟩
  obtain ⟨f, sp, hs, hS, ht⟩ := h
  obtain ⟨fd, ps, F, hk, hb⟩ := (A f sp hS).ex
  refine wpAny_Call_Name_kw (thn ((pe_var (pos := p) hN hv hdb hcd).run pins s σ H (fun v H1 => v = .ref f ∧ H1 = H) I ⟨.ref f, hs, rfl, rfl⟩) fun u s1 ⟨v, H1, I1, r1, q1⟩ => ?_)
  obtain ⟨rfl, rfl⟩ := q1
  cases r1
  refine PySem.W.callWith_K (h₀ := X.base) I.ok.mod.kin hk (thn (ha.run pos pins s1 σ _ _ I1 ht) fun us s2 ⟨vs, H2, I2, r, q⟩ => ⟨I2.kIn, ?_⟩) he hpl
  exact run_fnS F hr hb (hx σ) I2 r q
end
end LmExc

set_option maxHeartbeats 2000000
/-! Data in the heap, and what an expression evaluates to as data.
Two heaps go along: H, as it is, and a part G of it that is all the data leans on; what H knows besides (a list that is still growing) may change. -/
namespace Lm
open PySem PySem.Spec PyProof.Rows L2 Evl

mutual
/-- v reads as d -/
inductive Rp (G : Hp) : V → PyData → Prop
  | non : Rp G .non .none
  | bl (b : Bool) : Rp G (.bl b) (.bool b)
  | int (i : Int) : Rp G (.int i) (.int i)
  | str (x : Str) : Rp G (.str x) (.str x)
  | lst {a : Addr} {xs : List V} {ds : List PyData} : G a = some (.lst xs) → RpA G xs ds → Rp G (.ref a) (.list ds)
  | tup {a : Addr} {xs : List V} {ds : List PyData} : Rd G a (.tup xs) → RpA G xs ds → Rp G (.ref a) (.tuple ds)
  | dic {a : Addr} {kvs : List (Key × V)} : G a = some (.dK kvs) → Rp G (.ref a) (.dict [])
  | obj (a : Addr) : Rp G (.ref a) (.dict [(.none, .int (Int.ofNat a))])
  | frz {a : Addr} {o : Obj} {ns : List Int} {ds : List PyData} : G a = some (.frz o (.tup (ns.map V.int))) → o.dict = none → ds = ns.map .int → Rp G (.ref a) (.dict [(.bool true, .tuple ds)])
inductive RpA (G : Hp) : List V → List PyData → Prop
  | nil : RpA G [] []
  | cons {v : V} {vs : List V} {d : PyData} {ds : List PyData} : Rp G v d → RpA G vs ds → RpA G (v :: vs) (d :: ds)
end
/-- a thing that is only handed on: a def, an error -/
abbrev opq (a : Addr) : PyData := .dict [(.none, .int (Int.ofNat a))]
/-- a tuple of numbers of which the whole object is known -/
abbrev frzD (ns : List Int) : PyData := .dict [(.bool true, .tuple (ns.map .int))]
theorem rd_up {G G' : Hp} {a : Addr} {u : HO} (e : Ex G G') (h : Rd G a u) : Rd G' a u := h.elim (fun x => .inl (e _ _ x)) fun ⟨o, x⟩ => .inr ⟨o, e _ _ x⟩
section
variable {G G1 G' H H1 H2 H' : Hp}
mutual
theorem Rp.mono (e : Ex G G') : ∀ (d : PyData) (v : V), Rp G v d → Rp G' v d
  | .none, _, h => by cases h; exact .non
  | .bool b, _, h => by cases h; exact .bl b
  | .int i, _, h => by cases h; exact .int i
  | .str x, _, h => by cases h; exact .str x
  | .list ds, _, h => by
    cases h with
    | lst a b => exact .lst (e _ _ a) (RpA.mono e ds _ b)
  | .tuple ds, _, h => by
    cases h with
    | tup a b => exact .tup (rd_up e a) (RpA.mono e ds _ b)
  | .dict _, _, h => by
    cases h with
    | dic a => exact .dic (e _ _ a)
    | obj a => exact .obj a
    | frz a b c => exact .frz (e _ _ a) b c
theorem RpA.mono (e : Ex G G') : ∀ (ds : List PyData) (vs : List V), RpA G vs ds → RpA G' vs ds
  | [], _, h => by cases h; exact .nil
  | d :: ds, _, h => by
    cases h with
    | cons a b => exact .cons (Rp.mono e d _ a) (RpA.mono e ds _ b)
end
theorem Rp.up {v : V} {d : PyData} (h : Rp G v d) (e : Ex G G') : Rp G' v d := Rp.mono e d v h
theorem RpA.up {vs : List V} {ds : List PyData} (h : RpA G vs ds) (e : Ex G G') : RpA G' vs ds := RpA.mono e ds vs h
theorem RpA.len {vs : List V} {ds : List PyData} (h : RpA G vs ds) : vs.length = ds.length := by
  induction ds generalizing vs with
  | nil => cases h; rfl
  | cons d ds ih =>
    cases h with
    | cons a b => rw [List.length_cons, List.length_cons, ih b]
theorem RpA.at {ds : List PyData} : ∀ {vs : List V} {i : Nat} {d : PyData}, RpA G vs ds → ds[i]? = some d → ∃ v, vs[i]? = some v ∧ Rp G v d := by
  induction ds with
  | nil =>
    intro vs i d h e
    simp at e
  | cons c ds ih =>
    intro vs i d h e
    cases h with
    | cons a b =>
      cases i with
      | zero =>
        have e2 : c = d := by simpa using e
        subst e2
        exact ⟨_, rfl, a⟩
      | succ i =>
        obtain ⟨v, e3, r⟩ := ih b (show ds[i]? = some d by simpa using e)
        exact ⟨v, by simpa using e3, r⟩
theorem RpA.at2 {ds : List PyData} {vs : List V} {i : Nat} {v : V} (h : RpA G vs ds) (e : vs[i]? = some v) : ∃ d, ds[i]? = some d ∧ Rp G v d := by
  have hl := h.len
  have hi := (List.getElem?_eq_some_iff.mp e).1
  obtain ⟨v2, e2, r⟩ := h.at (List.getElem?_eq_getElem (l := ds) (i := i) (by omega))
  rw [e] at e2
  cases e2
  exact ⟨_, List.getElem?_eq_getElem (by omega), r⟩
theorem RpA.snoc {vs ws : List V} {ds es : List PyData} (h : RpA G vs ds) (k : RpA G ws es) : RpA G (vs ++ ws) (ds ++ es) := by
  induction ds generalizing vs with
  | nil => cases h; exact k
  | cons d ds ih =>
    cases h with
    | cons a b => exact .cons a (ih b)
theorem RpA.take {vs : List V} {ds : List PyData} (h : RpA G vs ds) (n : Nat) : RpA G (vs.take n) (ds.take n) := by
  induction ds generalizing vs n with
  | nil => cases h; rw [List.take_nil, List.take_nil]; exact .nil
  | cons d ds ih =>
    cases h with
    | cons a b =>
      cases n with
      | zero => exact .nil
      | succ n => exact .cons a (ih b n)
theorem RpA.drop {vs : List V} {ds : List PyData} (h : RpA G vs ds) (n : Nat) : RpA G (vs.drop n) (ds.drop n) := by
  induction ds generalizing vs n with
  | nil => cases h; rw [List.drop_nil, List.drop_nil]; exact .nil
  | cons d ds ih =>
    cases h with
    | cons a b =>
      cases n with
      | zero => exact .cons a b
      | succ n => exact ih b n
theorem RpA.rev {vs : List V} {ds : List PyData} (h : RpA G vs ds) : RpA G vs.reverse ds.reverse := by
  induction ds generalizing vs with
  | nil => cases h; exact .nil
  | cons d ds ih =>
    cases h with
    | cons a b =>
      rw [List.reverse_cons, List.reverse_cons]
      exact (ih b).snoc (.cons a .nil)
theorem RpA.ints : ∀ {ns : List Int} {vs : List V}, RpA G vs (ns.map PyData.int) → vs = ns.map V.int
  | [], _, h => by cases h; rfl
  | n :: ns, _, h => by
    cases h with
    | cons a b =>
      cases a
      rw [RpA.ints b]
      rfl
theorem RpA.ofInts : ∀ (ns : List Int), RpA G (ns.map V.int) (ns.map PyData.int)
  | [] => .nil
  | n :: ns => .cons (.int n) (RpA.ofInts ns)
theorem RpA.bools : ∀ {ns : List Bool} {vs : List V}, RpA G vs (ns.map PyData.bool) → vs = ns.map V.bl
  | [], _, h => by cases h; rfl
  | n :: ns, _, h => by
    cases h with
    | cons a b =>
      cases a
      rw [RpA.bools b]
      rfl
/-- a frozen tuple is a tuple -/
theorem Rp.thaw {v : V} {ns : List Int} (h : Rp G v (frzD ns)) : Rp G v (.tuple (ns.map .int)) := by
  cases h with
  | frz x y z =>
    rw [z]
    exact .tup (.inr ⟨_, x⟩) (RpA.ofInts _)
/-- the scalars -/
def sc : PyData → Option V
  | .none => some .non
  | .bool b => some (.bl b)
  | .int i => some (.int i)
  | .str x => some (.str x)
  | _ => none
theorem Rp.sc {v w : V} {d : PyData} (h : Rp G v d) (e : sc d = some w) : v = w := by
  cases h <;> first | exact Option.some.inj e | cases e
theorem Rp.ofSc {v : V} {d : PyData} (e : Lm.sc d = some v) : Rp G v d := by
  cases d with
  | none => cases e; exact .non
  | bool b => cases e; exact .bl b
  | int i => cases e; exact .int i
  | str x => cases e; exact .str x
  | list _ => cases e
  | tuple _ => cases e
  | dict _ => cases e
mutual
/-- .. as the library's deep comparison wants it -/
theorem Rp.dp {K : PySem.W.Frag} (e : Ex G H) : ∀ (d : PyData) (v : V), d.canLay0 = true → Rp G v d → Dp K H v d
  | .none, _, _, h => by cases h; exact .non
  | .bool b, _, _, h => by cases h; exact .bl b
  | .int i, _, _, h => by cases h; exact .int i
  | .str x, _, _, h => by cases h; exact .str x
  | .list ds, _, hc, h => by
    cases h with
    | lst a b => exact .lst (.inl (.inl (e _ _ a))) (RpA.dp e ds _ (by simpa [PyData.canLay0] using hc) b)
  | .tuple ds, _, hc, h => by
    cases h with
    | tup a b => exact .tup (.inl (rd_up e a)) (RpA.dp e ds _ (by simpa [PyData.canLay0] using hc) b)
  | .dict _, _, hc, h => by simp [PyData.canLay0] at hc
theorem RpA.dp {K : PySem.W.Frag} (e : Ex G H) : ∀ (ds : List PyData) (vs : List V), PyData.canLayAll0 ds = true → RpA G vs ds → DpAll K H vs ds
  | [], _, _, h => by cases h; exact .nil
  | d :: ds, _, hc, h => by
    have hc' : d.canLay0 = true ∧ PyData.canLayAll0 ds = true := by simpa [PyData.canLayAll0] using hc
    cases h with
    | cons a b => exact .cons (Rp.dp e d _ hc'.1 a) (RpA.dp e ds _ hc'.2 b)
end

/-! ### parts of heaps -/
/-- from the part G of H on to the part G' of H': what is new in G' is new since H -/
structure Part (G H G' H' : Hp) : Prop where
  ext : Ex G G'
  sub : Ex G' H'
  old : Ex H H'
  new : ∀ a o, G' a = some o → G a = none → H a = none
theorem Part.refl (e : Ex G H) : Part G H G H := ⟨Ex.refl G, e, Ex.refl H, fun a o h n => by rw [h] at n; cases n⟩
theorem Part.trans (p : Part G H G1 H1) (q : Part G1 H1 G' H') : Part G H G' H' where
  ext := p.ext.trans q.ext
  sub := q.sub
  old := p.old.trans q.old
  new := fun a o h n => by
    cases e : G1 a with
    | some u => exact p.new a u e n
    | none => exact fresh_back p.old (q.new a o h e)
/-- H goes on, G stays -/
theorem Part.on (p : Part G H G' H1) (e : Ex H1 H') : Part G H G' H' := ⟨p.ext, p.sub.trans e, p.old.trans e, p.new⟩
theorem Part.add {a : Addr} {o : HO} (p : Part G H G' H') (n : H' a = none) : Part G H (upd G' a o) (upd H' a o) where
  ext := p.ext.trans (Ex.new (fresh_back p.sub n))
  sub := fun b u h => by
    by_cases e : b = a
    · subst e
      rw [upd_same] at h ⊢
      exact h
    · rw [upd_ne e] at h ⊢
      exact p.sub b u h
  old := p.old.trans (Ex.new n)
  new := fun b u h k => by
    by_cases e : b = a
    · subst e
      exact fresh_back p.old n
    · rw [upd_ne e] at h
      exact p.new b u h k
def join (A B : Hp) : Hp := fun a => match A a with
  | some o => some o
  | none => B a
theorem ex_join1 {A B : Hp} : Ex A (join A B) := fun a o h => by
  unfold join
  rw [h]
theorem ex_join2 {A B C : Hp} (h1 : Ex A C) (h2 : Ex B C) : Ex B (join A B) := fun a o h => by
  unfold join
  cases e : A a with
  | none => exact h
  | some u =>
    have q := h1 a u e
    rw [h2 a o h] at q
    exact q.symm
theorem ex_join {A B C : Hp} (h1 : Ex A C) (h2 : Ex B C) : Ex (join A B) C := fun a o h => by
  unfold join at h
  cases e : A a with
  | none =>
    rw [e] at h
    exact h2 a o h
  | some u =>
    rw [e] at h
    have q := Option.some.inj h
    rw [← q]
    exact h1 a u e
/-- the base may be greater -/
theorem Part.wide (p : Part G H G' H') (e : Ex G G1) (s : Ex G1 H) : Part G1 H (join G1 G') H' where
  ext := ex_join1
  sub := ex_join (s.trans p.old) p.sub
  old := p.old
  new := fun a o h n => by
    unfold join at h
    rw [n] at h
    exact p.new a o h (fresh_back e n)
theorem Part.wide_up (p : Part G H G' H') (e : Ex G G1) (s : Ex G1 H) : Ex G' (join G1 G') := ex_join2 (s.trans p.old) p.sub
end

/-! ### evaluation -/
def EvD (te : TE) (σ : L2.St) (G : Hp) (d : PyData) : Prop := ∀ H, Ex G H → ∀ Q : VK, (∀ v G' H', Part G H G' H' → Rp G' v d → Q v H') → te σ H Q
def EdA (ta : TA) (σ : L2.St) (G : Hp) (ds : List PyData) : Prop := ∀ H, Ex G H → ∀ Q : List V → Hp → Prop, (∀ vs G' H', Part G H G' H' → RpA G' vs ds → Q vs H') → ta σ H Q
section
variable {K : PySem.W.Frag} {σ : L2.St} {G G1 G' H H' : Hp} {ta tb te : TE} {tr : TA} {t u : TT} {d e : PyData} {ds es : List PyData} {v w : V}
theorem EvD.mono (x : Ex G G1) (h : EvD te σ G d) : EvD te σ G1 d := fun H s Q q =>
  h H (x.trans s) Q fun v G' H' p r => q v (join G1 G') H' (p.wide x s) (r.up (p.wide_up x s))
theorem EdA.mono (x : Ex G G1) (h : EdA tr σ G ds) : EdA tr σ G1 ds := fun H s Q q =>
  h H (x.trans s) Q fun v G' H' p r => q v (join G1 G') H' (p.wide x s) (r.up (p.wide_up x s))
theorem EvD.ev (h : EvD te σ G d) (e : sc d = some v) : Ev te σ G v := fun H x Q q => h H x Q fun w G' H' p r => by
  rw [r.sc e]
  exact q H' p.old
theorem ofEv (h : Ev te σ G v) (e : sc d = some v) : EvD te σ G d := fun H x Q q => h H x Q fun H' k => q v G H' ((Part.refl x).on k) (Rp.ofSc e)
theorem EvD.is (h : EvD te σ G d) (x : d = e) : EvD te σ G e := x ▸ h
theorem ed_var {i : Nat} (h : σ[i]? = some (some v)) (r : Rp G v d) : EvD (tVar i) σ G d := fun H x Q q => ⟨v, h, q v G H (Part.refl x) r⟩
theorem ed_c (e : sc d = some v) : EvD (tC v) σ G d := ofEv ev_c e
theorem ed_int {i : Int} : EvD (tC (.int i)) σ G (.int i) := ed_c rfl
theorem ed_bl {b : Bool} : EvD (tC (.bl b)) σ G (.bool b) := ed_c rfl
theorem ed_str {b : Str} : EvD (tC (.str b)) σ G (.str b) := ed_c rfl
theorem ed_non : EvD (tC .non) σ G .none := ed_c rfl
theorem ea_nil : EdA tNil σ G [] := fun H x Q q => q [] G H (Part.refl x) .nil
theorem ea_cons (h : EvD ta σ G d) (k : EdA tr σ G ds) : EdA (tCons ta tr) σ G (d :: ds) := fun H x Q q =>
  h H x _ fun v G1 H1 p r => (k.mono p.ext) H1 p.sub _ fun vs G2 H2 p2 rs => q (v :: vs) G2 H2 (p.trans p2) (.cons (r.up p2.ext) rs)
theorem ed_tup (h : EdA tr σ G ds) (hl : ds.length ≤ 100000) : EvD (tTup tr) σ G (.tuple ds) := fun H x Q q =>
  h H x _ fun vs G1 H1 p r => ⟨by rw [r.len]; exact sz_of hl, fun a n => q _ _ _ (p.add n) (.tup (.inl upd_same) (r.up (Ex.new (fresh_back p.sub n))))⟩
theorem ed_lst (h : EdA tr σ G ds) (hl : ds.length ≤ 100000) : EvD (tLst tr) σ G (.list ds) := fun H x Q q =>
  h H x _ fun vs G1 H1 p r => ⟨by rw [r.len]; exact sz_of hl, fun a n => q _ _ _ (p.add n) (.lst upd_same (r.up (Ex.new (fresh_back p.sub n))))⟩
/-! operators of ints -/
theorem ed_i0 {g : Int → Int → V} {i j : Int} (h : EvD ta σ G (.int i)) (k : EvD tb σ G (.int j)) (e : sc d = some (g i j)) : EvD (tOp (rI0 g) ta tb) σ G d := ofEv (ev_op (h.ev rfl) (k.ev rfl) rv_I0) e
theorem ed_iC {C : Int → Int → Prop} {g : Int → Int → V} {i j : Int} (h : EvD ta σ G (.int i)) (k : EvD tb σ G (.int j)) (c : C i j) (e : sc d = some (g i j)) : EvD (tOp (rI C g) ta tb) σ G d := ofEv (ev_op (h.ev rfl) (k.ev rfl) (rv_I c)) e
theorem ed_neg {i : Int} (h : EvD ta σ G (.int i)) : EvD (tUn (rU fun i => .int (-i)) ta) σ G (.int (-i)) := ofEv (ev_un (h.ev rfl) ru_neg) rfl
/-! == and != of any data -/
theorem ed_eq (h : EvD ta σ G d) (k : EvD tb σ G e) (s1 : SeqAt.shaped d = true) (s2 : SeqAt.shaped e = true) : EvD (tOp (rEqD K) ta tb) σ G (.bool (PyData.eqv d e)) := fun H x Q q =>
  h H x _ fun v G1 H1 p r => (k.mono p.ext) H1 p.sub _ fun w G2 H2 p2 r2 =>
    ⟨d, e, Rp.dp p2.sub d v (SeqAt.canLay_of_shaped s1) (r.up p2.ext), Rp.dp p2.sub e w (SeqAt.canLay_of_shaped s2) r2, s1, s2, q _ G2 H2 (p.trans p2) (.bl _)⟩
theorem ed_ne (h : EvD ta σ G d) (k : EvD tb σ G e) (s1 : SeqAt.shaped d = true) (s2 : SeqAt.shaped e = true) : EvD (tOp (rNeD K) ta tb) σ G (.bool (!PyData.eqv d e)) := fun H x Q q =>
  h H x _ fun v G1 H1 p r => (k.mono p.ext) H1 p.sub _ fun w G2 H2 p2 r2 =>
    ⟨d, e, Rp.dp p2.sub d v (SeqAt.canLay_of_shaped s1) (r.up p2.ext), Rp.dp p2.sub e w (SeqAt.canLay_of_shaped s2) r2, s1, s2, q _ G2 H2 (p.trans p2) (.bl _)⟩
/-! is None -/
def isN : PyData → Bool
  | .none => true
  | _ => false
theorem ed_isN (h : EvD ta σ G d) : EvD (tIsN ta) σ G (.bool (isN d)) := fun H x Q q =>
  h H x _ fun v G1 H1 p r => by
    have e : decide (v = V.non) = isN d := by cases r <;> rfl
    show Q (.bl (decide (v = V.non))) H1
    rw [e]
    exact q _ G1 H1 p (.bl _)
/-! places -/
theorem atI_at {α β : Type} {xs : List α} {ys : List β} (hl : xs.length = ys.length) {i : Int} {y : β} (h : atI ys i = some y) : ∃ j : Nat, ys[j]? = some y ∧ ∀ x : α, xs[j]? = some x → atI xs i = some x := by
  unfold atI at h ⊢
  rw [hl]
  cases q : ixN ys.length i with
  | none => rw [q] at h; cases h
  | some j =>
    rw [q] at h
    exact ⟨j, h, fun x e => e⟩
theorem ed_ixL {i : Int} (h : EvD ta σ G (.list ds)) (k : EvD tb σ G (.int i)) (e : atI ds i = some d) : EvD (tOp (rIxL K) ta tb) σ G d := fun H x Q q =>
  h H x _ fun v G1 H1 p r => (k.mono p.ext) H1 p.sub _ fun w G2 H2 p2 r2 => by
    cases r with
    | lst a b =>
      cases r2
      obtain ⟨j, e1, e2⟩ := atI_at b.len e
      obtain ⟨v, e3, r3⟩ := b.at e1
      exact ⟨_, _, i, v, rfl, rfl, .inl (.inl (p2.sub _ _ (p2.ext _ _ a))), e2 v e3, q v G2 H2 (p.trans p2) (r3.up p2.ext)⟩
theorem ed_ixT {i : Int} (h : EvD ta σ G (.tuple ds)) (k : EvD tb σ G (.int i)) (e : atI ds i = some d) : EvD (tOp (rIxT K) ta tb) σ G d := fun H x Q q =>
  h H x _ fun v G1 H1 p r => (k.mono p.ext) H1 p.sub _ fun w G2 H2 p2 r2 => by
    cases r with
    | tup a b =>
      cases r2
      obtain ⟨j, e1, e2⟩ := atI_at b.len e
      obtain ⟨v, e3, r3⟩ := b.at e1
      exact ⟨_, _, i, v, rfl, rfl, .inl (rd_up (p2.ext.trans p2.sub) a), e2 v e3, q v G2 H2 (p.trans p2) (r3.up p2.ext)⟩
/-! built-ins -/
theorem ed_lenL (h : EvD ta σ G (.list ds)) : EvD (tCB (rLenS K) (tCons ta tNil)) σ G (.int (ds.length : Nat)) := fun H x Q q =>
  h H x _ fun v G1 H1 p r => by
    cases r with
    | lst a b =>
      refine ⟨_, _, rfl, .inl (.inl (.inl (p.sub _ _ a))), ?_⟩
      rw [b.len]
      exact q _ G1 H1 p (.int _)
theorem ed_lenT (h : EvD ta σ G (.tuple ds)) : EvD (tCB (rLenS K) (tCons ta tNil)) σ G (.int (ds.length : Nat)) := fun H x Q q =>
  h H x _ fun v G1 H1 p r => by
    cases r with
    | tup a b =>
      refine ⟨_, _, rfl, .inr (.inl (rd_up p.sub a)), ?_⟩
      rw [b.len]
      exact q _ G1 H1 p (.int _)
theorem ed_listL (h : EvD ta σ G (.list ds)) : EvD (tCB (rListS K) (tCons ta tNil)) σ G (.list ds) := fun H x Q q =>
  h H x _ fun v G1 H1 p r => by
    cases r with
    | lst a b => exact ⟨_, _, rfl, .inl (.inl (.inl (p.sub _ _ a))), fun l n => q _ _ _ (p.add n) (.lst upd_same (b.up (Ex.new (fresh_back p.sub n))))⟩
theorem ed_listT (h : EvD ta σ G (.tuple ds)) : EvD (tCB (rListS K) (tCons ta tNil)) σ G (.list ds) := fun H x Q q =>
  h H x _ fun v G1 H1 p r => by
    cases r with
    | tup a b => exact ⟨_, _, rfl, .inr (.inl (rd_up p.sub a)), fun l n => q _ _ _ (p.add n) (.lst upd_same (b.up (Ex.new (fresh_back p.sub n))))⟩
theorem ed_tupleL (h : EvD ta σ G (.list ds)) : EvD (tThen ta (kTup K)) σ G (.tuple ds) := fun H x Q q =>
  h H x _ fun v G1 H1 p r => by
    cases r with
    | lst a b => exact .inl ⟨_, _, rfl, .inl (.inl (p.sub _ _ a)), fun l n => q _ _ _ (p.add n) (.tup (.inl upd_same) (b.up (Ex.new (fresh_back p.sub n))))⟩
theorem ed_sum {ns : List Int} (h : EvD ta σ G (.list (ns.map .int))) : EvD (tCB (rSum K) (tCons ta tNil)) σ G (.int ns.sum) := fun H x Q q =>
  h H x _ fun v G1 H1 p r => by
    cases r with
    | lst a b =>
      have e := b.ints
      subst e
      exact ⟨_, ns, rfl, .inl (.inl (p.sub _ _ a)), q _ G1 H1 p (.int _)⟩
theorem ed_all {bs : List Bool} (h : EvD ta σ G (.list (bs.map .bool))) : EvD (tCB (rAll K) (tCons ta tNil)) σ G (.bool (bs.all id)) := fun H x Q q =>
  h H x _ fun v G1 H1 p r => by
    cases r with
    | lst a b =>
      have e := b.bools
      subst e
      exact ⟨_, bs, rfl, .inl (.inl (p.sub _ _ a)), q _ G1 H1 p (.bl _)⟩
/-- ints in rising order -/
theorem ed_sorted {ns ms : List Int} (h : EvD ta σ G (.list (ns.map .int))) (hs : ∀ ks : List Int, ks.Perm ns → ks.Pairwise (· ≤ ·) → ks = ms) : EvD (tCB (rSortedI K) (tCons ta tNil)) σ G (.list (ms.map .int)) := fun H x Q q =>
  h H x _ fun v G1 H1 p r => by
    cases r with
    | lst a b =>
      have e := b.ints
      subst e
      refine ⟨_, ns, rfl, .inl (.inl (p.sub _ _ a)), fun ks l k1 k2 n => ?_⟩
      rw [hs ks k1 k2]
      exact q _ _ _ (p.add n) (.lst upd_same (RpA.ofInts ms))
theorem ed_rev (h : EvD ta σ G (.list ds)) : EvD (tRevL K ta) σ G (.list ds.reverse) := fun H x Q q =>
  h H x _ fun v G1 H1 p r => by
    cases r with
    | lst a b => exact ⟨_, _, rfl, .inl (.inl (p.sub _ _ a)), fun l n => q _ _ _ (p.add n) (.lst upd_same (b.rev.up (Ex.new (fresh_back p.sub n))))⟩
theorem ed_catL (h : EvD ta σ G (.list ds)) (k : EvD tb σ G (.list es)) (hl : ds.length + es.length ≤ 100000) : EvD (tOp rCat ta tb) σ G (.list (ds ++ es)) := fun H x Q q =>
  h H x _ fun v G1 H1 p r => (k.mono p.ext) H1 p.sub _ fun w G2 H2 p2 r2 => by
    cases r with
    | lst a b =>
      cases r2 with
      | lst a2 b2 =>
        refine ⟨_, _, _, _, rfl, rfl, p2.sub _ _ (p2.ext _ _ a), p2.sub _ _ a2, by rw [b.len, b2.len]; exact sz_of hl, fun l n => ?_⟩
        exact q _ _ _ ((p.trans p2).add n) (.lst upd_same (((b.up p2.ext).snoc b2).up (Ex.new (fresh_back p2.sub n))))
theorem ed_catT (h : EvD ta σ G (.tuple ds)) (k : EvD tb σ G (.tuple es)) (hl : ds.length + es.length ≤ 100000) : EvD (tOp (rCatA K) ta tb) σ G (.tuple (ds ++ es)) := fun H x Q q =>
  h H x _ fun v G1 H1 p r => (k.mono p.ext) H1 p.sub _ fun w G2 H2 p2 r2 => by
    cases r with
    | tup a b =>
      cases r2 with
      | tup a2 b2 =>
        refine ⟨_, _, _, _, rfl, rfl, .inl (rd_up (p2.ext.trans p2.sub) a), .inl (rd_up p2.sub a2), by rw [b.len, b2.len]; exact sz_of hl, fun e => ?_, fun _ e => ?_, fun _ _ l n => ?_⟩
        · have hd : ds = [] := by
            have := b.len
            rw [e] at this
            exact List.length_eq_zero_iff.mp this.symm
          subst hd
          exact q _ _ _ (p.trans p2) (.tup a2 b2)
        · have hd : es = [] := by
            have := b2.len
            rw [e] at this
            exact List.length_eq_zero_iff.mp this.symm
          subst hd
          exact q _ _ _ (p.trans p2) (by rw [List.append_nil]; exact .tup (rd_up p2.ext a) (b.up p2.ext))
        · exact q _ _ _ ((p.trans p2).add n) (.tup (.inl upd_same) (((b.up p2.ext).snoc b2).up (Ex.new (fresh_back p2.sub n))))
theorem rep_rp {xs : List V} (b : RpA G xs ds) : ∀ n : Nat, RpA G (List.replicate n xs).flatten (List.replicate n ds).flatten
  | 0 => .nil
  | n + 1 => by
    rw [List.replicate_succ, List.replicate_succ, List.flatten_cons, List.flatten_cons]
    exact b.snoc (rep_rp b n)
theorem ed_repT {k : Int} (h : EvD ta σ G (.tuple ds)) (hk : EvD tb σ G (.int k)) (c : ds ≠ [] ∧ 2 ≤ k ∧ k ≤ 1000 ∧ ds.length ≤ 1000) : EvD (tOp (rRepT K) ta tb) σ G (.tuple (List.replicate k.toNat ds).flatten) := fun H x Q q =>
  h H x _ fun v G1 H1 p r => (hk.mono p.ext) H1 p.sub _ fun w G2 H2 p2 r2 => by
    cases r with
    | tup a b =>
      cases r2
      refine ⟨_, k, _, rfl, rfl, .inl (rd_up (p2.ext.trans p2.sub) a), fun e => c.1 ?_, c.2.1, c.2.2.1, by rw [b.len]; exact c.2.2.2, fun l n => ?_⟩
      · have := b.len
        rw [e] at this
        exact List.length_eq_zero_iff.mp this.symm
      · exact q _ _ _ ((p.trans p2).add n) (.tup (.inl upd_same) ((rep_rp (b.up p2.ext) k.toNat).up (Ex.new (fresh_back p2.sub n))))
/-! slices -/
def cutD (ds : List PyData) (lo hi : Option Int) : List PyData := (ds.drop (HT.sIx ds.length 0 lo)).take (HT.sIx ds.length ds.length hi - HT.sIx ds.length 0 lo)
theorem cut_rp {xs : List V} (b : RpA G xs ds) (lo hi : Option Int) : RpA G (cutV xs lo hi) (cutD ds lo hi) := by
  unfold cutV cutD
  rw [b.len]
  exact (b.drop _).take _
theorem ed_slL {tl th : TO} {lo hi : Option Int} (h : EvD te σ G (.list ds)) (h1 : EvO tl σ G lo) (h2 : EvO th σ G hi) : EvD (tSl (rSlL K) te tl th) σ G (.list (cutD ds lo hi)) := fun H x Q q =>
  h H x _ fun v G1 H1 p r => h1 H1 (x.trans p.old) _ fun H2 e2 => h2 H2 ((x.trans p.old).trans e2) _ fun H3 e3 => by
    cases r with
    | lst a b =>
      have p3 := p.on (e2.trans e3)
      exact ⟨_, _, rfl, .inl (.inl (p3.sub _ _ a)), fun l n => q _ _ _ (p3.add n) (.lst upd_same ((cut_rp b lo hi).up (Ex.new (fresh_back p3.sub n))))⟩
theorem cut_whole (lo hi : Option Int) (c : HT.sIx ds.length 0 lo = 0 ∧ HT.sIx ds.length ds.length hi = ds.length) : cutD ds lo hi = ds := by
  unfold cutD
  rw [c.1, c.2]
  simp
theorem ed_slT {tl th : TO} {lo hi : Option Int} (h : EvD te σ G (.tuple ds)) (h1 : EvO tl σ G lo) (h2 : EvO th σ G hi) : EvD (tSl (rSlA K) te tl th) σ G (.tuple (cutD ds lo hi)) := fun H x Q q =>
  h H x _ fun v G1 H1 p r => h1 H1 (x.trans p.old) _ fun H2 e2 => h2 H2 ((x.trans p.old).trans e2) _ fun H3 e3 => by
    cases r with
    | tup a b =>
      have p3 := p.on (e2.trans e3)
      refine ⟨_, _, rfl, .inl (rd_up p3.sub a), fun c => ?_, fun _ l n => ?_⟩
      · rw [b.len] at c
        exact q _ _ _ p3 (by rw [cut_whole lo hi c]; exact .tup a b)
      · exact q _ _ _ (p3.add n) (.tup (.inl upd_same) ((cut_rp b lo hi).up (Ex.new (fresh_back p3.sub n))))
/-! tests -/
theorem et_of {b : Bool} (h : EvD te σ G (.bool b)) : EvT (tB te) σ G b := et_B (h.ev rfl)
theorem et_of' {b : Bool} (h : EvD te σ G (.bool b)) : EvT (tTest te) σ G b := et_test (h.ev rfl)
theorem ed_andV {a b : Bool} (h1 : EvD ta σ G (.bool a)) (h2 : a = true → EvD tb σ G (.bool b)) : EvD (tAndV ta tb) σ G (.bool (a && b)) := ofEv (ev_andV (h1.ev rfl) fun e => (h2 e).ev rfl) rfl
theorem ed_orV {a b : Bool} (h1 : EvD ta σ G (.bool a)) (h2 : a = false → EvD tb σ G (.bool b)) : EvD (tOrV ta tb) σ G (.bool (a || b)) := ofEv (ev_orV (h1.ev rfl) fun e => (h2 e).ev rfl) rfl
theorem ed_notV {a : Bool} (h1 : EvD ta σ G (.bool a)) : EvD (tNotV ta) σ G (.bool (!a)) := ofEv (ev_notV (h1.ev rfl)) rfl
theorem ed_if {b : Bool} (h : EvT t σ G b) (h1 : b = true → EvD ta σ G d) (h2 : b = false → EvD tb σ G d) : EvD (tIf t ta tb) σ G d := fun H x Q q => h H x _ fun H1 e1 => by
  cases b with
  | true => exact h1 rfl H1 (x.trans e1) Q fun v G' H' p r => q v G' H' ⟨p.ext, p.sub, e1.trans p.old, fun a o k n => fresh_back e1 (p.new a o k n)⟩ r
  | false => exact h2 rfl H1 (x.trans e1) Q fun v G' H' p r => q v G' H' ⟨p.ext, p.sub, e1.trans p.old, fun a o k n => fresh_back e1 (p.new a o k n)⟩ r
/-! type(x) -/
def tyD : PyData → Option String
  | .none => some "NoneType"
  | .bool _ => some "bool"
  | .int _ => some "int"
  | .str _ => some "str"
  | .list _ => some "list"
  | .tuple _ => some "tuple"
  | .dict [] => some "dict"
  | .dict _ => none
theorem Rp.ty {T : String} (h : Rp G v d) (e : tyD d = some T) : LmType.TyA G v T := by
  cases h with
  | non => cases e; exact .non
  | bl b => cases e; exact .bl b
  | int b => cases e; exact .int b
  | str b => cases e; exact .str b
  | lst a b => cases e; exact .lst a
  | tup a b => cases e; exact .tup a
  | dic a => cases e; exact .dic a
  | obj a => cases e
  | frz a b c => cases e
theorem tyA_up {x : V} {T : String} (h : LmType.TyA G x T) (e : Ex G H) : LmType.TyA H x T := by
  cases h with
  | non => exact .non
  | bl b => exact .bl b
  | int b => exact .int b
  | str b => exact .str b
  | lst a => exact .lst (e _ _ a)
  | tup a => exact .tup (rd_up e a)
  | dic a => exact .dic (e _ _ a)
theorem ev_type {T : String} (h : EvD ta σ G d) (e : tyD d = some T) : Ev (tCB LmType.rType (tCons ta tNil)) σ G (.ty T) := fun H x Q q =>
  h H x _ fun v G1 H1 p r => ⟨v, T, rfl, tyA_up (r.ty e) p.sub, q H1 p.old⟩
theorem ed_tyEq {S T : String} (h : Ev ta σ G (.ty S)) (k : Ev tb σ G (.ty T)) (hS : LmType.Known S) (hT : LmType.Known T) : EvD (tOp LmType.rEqTy ta tb) σ G (.bool (decide (S = T))) :=
  ofEv (ev_op h k (rv_val fun H1 _ Q q => ⟨S, T, rfl, rfl, hS, hT, q⟩)) rfl
theorem ed_tyNe {S T : String} (h : Ev ta σ G (.ty S)) (k : Ev tb σ G (.ty T)) (hS : LmType.Known S) (hT : LmType.Known T) : EvD (tOp LmType.rNeTy ta tb) σ G (.bool (!decide (S = T))) :=
  ofEv (ev_op h k (rv_val fun H1 _ Q q => ⟨S, T, rfl, rfl, hS, hT, q⟩)) rfl
/-! isinstance(x, a built-in class) -/
theorem Rp.tyOf {T : String} (h : Rp G v d) (e : tyD d = some T) : TyX K G v (.type T) := by
  cases h with
  | non => cases e; exact .base .non
  | bl b => cases e; exact .base (.bl b)
  | int b => cases e; exact .base (.int b)
  | str b => cases e; exact .base (.str b)
  | lst a b => cases e; exact .base (.lst a)
  | tup a b =>
    cases e
    rcases a with a | ⟨o, a⟩
    · exact .base (.tup a)
    · exact .fTuple a
  | dic a => cases e; exact .base (.dK a)
  | obj a => cases e
  | frz a b c => cases e
theorem ed_isInst {T S : String} {b : Bool} (h : EvD ta σ G d) (k : Ev tb σ G (.ty S)) (e : tyD d = some T) (hb : kitB T S = some b) : EvD (tCB (rIsi K) (tCons ta (tCons tb tNil))) σ G (.bool b) := fun H x Q q =>
  h H x _ fun v G1 H1 p r => k H1 (x.trans p.old) _ fun H2 e2 => ⟨v, .ty S, .type T, .type S, b, rfl, .ty S, (r.up (p.sub.trans e2)).tyOf e, kit_ty hb, q _ G1 H2 (p.on e2) (.bl _)⟩
theorem ed_intB {b : Bool} (h : EvD ta σ G (.bool b)) : EvD (tCB (fun xs H Q => (∃ i, xs = [.int i] ∧ Q (.int i) H) ∨ ∃ k, xs = [.bl k] ∧ Q (.int (if k then 1 else 0)) H) (tCons ta tNil)) σ G (.int (if b then 1 else 0)) := fun H x Q q =>
  h H x _ fun v G1 H1 p r => by
    cases r
    exact .inr ⟨b, rfl, q _ G1 H1 p (.int _)⟩
end
end Lm

set_option maxHeartbeats 2000000
/-! Promises, calls, statements, comprehensions and loops over data. -/
namespace Lm
open PySem PySem.Spec PyProof.Rows L2 Evl

/-- how a def ends: a value, or an error of the class at C -/
inductive Out where
  | val (d : PyData)
  | err (C : Addr)
/-- what is wanted at that end, from the part G of H on -/
def Want (o : Out) (G H : Hp) (Q : VK) (E : XK) : Prop := match o with
  | .val d => ∀ v G' H', Part G H G' H' → Rp G' v d → Q v H'
  | .err C => ∀ H', Ex H H' → E (.ref C) none H'
section
variable {K : PySem.W.Frag} {σ : L2.St} {G G0 G1 G' H H0 H' : Hp} {ta tb te : TE} {tr : TA} {t u : TT} {d e : PyData} {ds es : List PyData} {v w : V} {o : Out} {Q : VK} {E : XK} {D : Ends} {tu tw tz : TS}
theorem Want.go (q : Want o G0 H0 Q E) (p : Part G0 H0 G H) : Want o G H Q E := by
  cases o with
  | val d => exact fun v G' H' p2 r => q v G' H' (p.trans p2) r
  | err C => exact fun H' x => q H' (p.old.trans x)
/-- THE PROMISE of a def over data: r tells the end by the arguments -/
def spO (r : List PyData → Out → Prop) : Sp := fun vs H Q E => ∃ G ds o, Ex G H ∧ RpA G vs ds ∧ r ds o ∧ Want o G H Q E
def EvX (te : TE) (E : XK) (σ : L2.St) (G : Hp) (o : Out) : Prop := ∀ H, Ex G H → ∀ Q : VK, Want o G H Q E → te σ H Q
theorem EvD.x (h : EvD te σ G d) : EvX te E σ G (.val d) := fun H x Q q => h H x Q q
theorem EvX.toD (h : EvX te E σ G (.val d)) : EvD te σ G d := fun H x Q q => h H x Q q
theorem ex_call {r : List PyData → Out → Prop} (h : EdA tr σ G ds) (hr : r ds o) : EvX (tCall (spO r) [] E tr) E σ G o := fun H x Q q =>
  h H x _ fun vs G1 H1 p rs => ⟨G1, ds, o, p.sub, by rw [List.append_nil]; exact rs, hr, q.go p⟩
theorem ed_call {r : List PyData → Out → Prop} (h : EdA tr σ G ds) (hr : r ds (.val d)) : EvD (tCall (spO r) [] E tr) σ G d := EvX.toD (E := E) (ex_call h hr)

/-! ### statements -/
theorem d_asg {i : Nat} (P : Part G0 H0 G H) (h : EvD te σ G d) (k : ∀ v G' H', Part G0 H0 G' H' → Ex G G' → Ex H H' → Rp G' v d → tz D (σ.set i (some v)) H') : tSeq (tAsg te (gName i)) tz D σ H :=
  h H P.sub _ fun v G' H' p r => k v G' H' (P.trans p) p.ext p.old r
theorem d_asg1 {i : Nat} (P : Part G0 H0 G H) (h : EvD te σ G d) (k : ∀ v G' H', Part G0 H0 G' H' → Ex G G' → Ex H H' → Rp G' v d → D.nx (σ.set i (some v)) H') : tAsg te (gName i) D σ H :=
  h H P.sub _ fun v G' H' p r => k v G' H' (P.trans p) p.ext p.old r
/-- .. of a number, a truth, a text, None -/
theorem d_asgS {i : Nat} (P : Part G0 H0 G H) (h : EvD te σ G d) (e : sc d = some v) (k : ∀ H', Part G0 H0 G H' → Ex H H' → tz D (σ.set i (some v)) H') : tSeq (tAsg te (gName i)) tz D σ H :=
  (h.ev e) H P.sub _ fun H' x => k H' (P.on x) x
theorem d_ret (P : Part G0 H0 G H) (h : EvX te E σ G o) (q : Want o G0 H0 D.rt E) : tRet te D σ H := h H P.sub _ (q.go P)
theorem d_retD (P : Part G0 H0 G H) (h : EvD te σ G d) (q : Want (.val d) G0 H0 D.rt E) : tRet te D σ H := h H P.sub _ (q.go P)
theorem d_drop {d : PyData} (P : Part G0 H0 G H) (h : EvX te E σ G o) (k : ∀ d, o = .val d → ∀ H', Part G0 H0 G H' → Ex H H' → tz D σ H') (q : ∀ C, o = .err C → ∀ H', Ex H0 H' → E (.ref C) none H') : tSeq (tDrop te) tz D σ H :=
  h H P.sub _ (by
    cases o with
    | val d => exact fun v G' H' p r => k d rfl H' (P.on p.old) p.old
    | err C => exact fun H' x => q C rfl H' (P.old.trans x))
theorem d_if {b : Bool} (P : Part G0 H0 G H) (h : EvT t σ G b) (h1 : b = true → ∀ H', Part G0 H0 G H' → Ex H H' → tu { D with nx := tz D } σ H') (h2 : b = false → ∀ H', Part G0 H0 G H' → Ex H H' → tw { D with nx := tz D } σ H') : tSeq (tIfS t tu tw) tz D σ H :=
  h H P.sub _ fun H' x => by
    cases b with
    | true => exact h1 rfl H' (P.on x) x
    | false => exact h2 rfl H' (P.on x) x
theorem d_when {b : Bool} (P : Part G0 H0 G H) (h : EvT t σ G b) (h1 : b = true → ∀ H', Part G0 H0 G H' → Ex H H' → tu { D with nx := tz D } σ H') (h2 : b = false → ∀ H', Part G0 H0 G H' → Ex H H' → tz D σ H') : tSeq (tIfS t tu tNext) tz D σ H :=
  d_if P h h1 h2
theorem d_if1 {b : Bool} (P : Part G0 H0 G H) (h : EvT t σ G b) (h1 : b = true → ∀ H', Part G0 H0 G H' → Ex H H' → tu D σ H') (h2 : b = false → ∀ H', Part G0 H0 G H' → Ex H H' → tw D σ H') : tIfS t tu tw D σ H :=
  h H P.sub _ fun H' x => by
    cases b with
    | true => exact h1 rfl H' (P.on x) x
    | false => exact h2 rfl H' (P.on x) x

/-! ### what is walked -/
def YSrc (its : List PyData) (G : Hp) : Nat → Hp → V → Hp → Prop := fun i H x H' => ∀ Gc, Ex G Gc → Ex Gc H → ∃ G' d, Part Gc H G' H' ∧ its[i]? = some d ∧ Rp G' x d
def EvI (wi : TI) (σ : L2.St) (G : Hp) (its : List PyData) : Prop := ∀ H, Ex G H → ∀ R : It → Hp → Prop, (∀ J G1 H1, Part G H G1 H1 → Walk J its.length (fun H => Ex G1 H) (YSrc its G1) → R J H1) → wi σ H R
theorem ei_list (h : EvD te σ G (.list ds)) : EvI (iList K te) σ G ds := fun H x R q => h H x _ fun v G1 H1 p r => by
  cases r with
  | @lst a xs _ e b =>
    refine ⟨a, rfl, ⟨xs, .inl (.inl (p.sub _ _ e))⟩, q _ G1 H1 p ?_⟩
    rw [← b.len]
    refine (walk_list (K := K) (a := a) (xs := xs)).mono (fun H' k => .inl (.inl (k _ _ e))) fun i H2 y H3 hi k z Gc c1 c2 => ?_
    obtain ⟨rfl, hy⟩ := z
    obtain ⟨d, e1, e2⟩ := b.at2 hy
    exact ⟨Gc, d, Part.refl c2, e1, e2.up c1⟩
theorem ei_tup (h : EvD te σ G (.tuple ds)) : EvI (iTup K te) σ G ds := fun H x R q => h H x _ fun v G1 H1 p r => by
  cases r with
  | @tup a xs _ e b =>
    refine ⟨a, rfl, ⟨xs, .inl (rd_up p.sub e)⟩, q _ G1 H1 p ?_⟩
    rw [← b.len]
    refine (walk_tup (K := K) (a := a) (xs := xs)).mono (fun H' k => .inl (rd_up k e)) fun i H2 y H3 hi k z Gc c1 c2 => ?_
    obtain ⟨rfl, hy⟩ := z
    obtain ⟨d, e1, e2⟩ := b.at2 hy
    exact ⟨Gc, d, Part.refl c2, e1, e2.up c1⟩
def rgD (lo : Int) (n : Nat) : List PyData := (List.range n).map fun k => .int (lo + (k : Nat))
theorem rgD_len {lo : Int} {n : Nat} : (rgD lo n).length = n := by
  unfold rgD
  rw [List.length_map, List.length_range]
theorem rgD_at {lo : Int} {n i : Nat} (h : i < n) : (rgD lo n)[i]? = some (.int (lo + (i : Nat))) := by
  unfold rgD
  rw [List.getElem?_map, List.getElem?_range h]
  rfl
theorem ei_rng {lo : Int} {n : Nat} {G1 : Hp} : Walk (Itr lo n) (rgD lo n).length (fun H => Ex G1 H) (YSrc (rgD lo n) G1) := by
  rw [rgD_len]
  refine walk_range.mono (fun _ _ => trivial) fun i H2 y H3 hi k z Gc c1 c2 => ?_
  obtain ⟨rfl, rfl⟩ := z
  exact ⟨Gc, _, Part.refl c2, rgD_at hi, .int _⟩
theorem ei_rng1 {j : Int} (h : EvD ta σ G (.int j)) (c : -(2 ^ 62) ≤ j ∧ j < 2 ^ 62) : EvI (iRng1 (tCons ta tNil)) σ G (rgD 0 j.toNat) := fun H x R q => h H x _ fun v G1 H1 p r => by
  cases r
  exact ⟨j, rfl, c.1, c.2, q _ G1 H1 p ei_rng⟩
theorem ei_rng2 {i j : Int} (h : EvD ta σ G (.int i)) (k : EvD tb σ G (.int j)) (c : -(2 ^ 62) ≤ i ∧ i < 2 ^ 62 ∧ -(2 ^ 62) ≤ j ∧ j < 2 ^ 62) : EvI (iRng2 (tCons ta (tCons tb tNil))) σ G (rgD i (j - i).toNat) := fun H x R q =>
  h H x _ fun v G1 H1 p r => (k.mono p.ext) H1 p.sub _ fun w G2 H2 p2 r2 => by
    cases r
    cases r2
    exact ⟨i, j, rfl, c, q _ G2 H2 (p.trans p2) ei_rng⟩
/-- a new pair at each turn -/
theorem pair_new {Gc H : Hp} {T : Addr} {x y : V} {d e : PyData} (s : Ex Gc H) (n : H T = none) (r1 : Rp Gc x d) (r2 : Rp Gc y e) : Part Gc H (upd Gc T (.tup [x, y])) (upd H T (.tup [x, y])) ∧ Rp (upd Gc T (.tup [x, y])) (.ref T) (.tuple [d, e]) := by
  have p := (Part.refl s).add (o := .tup [x, y]) n
  exact ⟨p, .tup (.inl upd_same) (.cons (r1.up p.ext) (.cons (r2.up p.ext) .nil))⟩
def enD (ds : List PyData) : List PyData := (List.range ds.length).map fun k => .tuple [.int (k : Nat), ds.getD k .none]
theorem enD_len : (enD ds).length = ds.length := by
  unfold enD
  rw [List.length_map, List.length_range]
theorem enD_at {i : Nat} (h : ds[i]? = some d) : (enD ds)[i]? = some (.tuple [.int (i : Nat), d]) := by
  unfold enD
  rw [List.getElem?_map, List.getElem?_range (List.getElem?_eq_some_iff.mp h).1]
  show some (PyData.tuple [PyData.int (i : Nat), ds.getD i PyData.none]) = _
  rw [List.getD_eq_getElem?_getD, h]
  rfl
theorem enum_walk {a : Addr} {xs : List V} {G1 : Hp} (hq : ∀ H, Ex G1 H → SqL K H a xs) (b : RpA G1 xs ds) : Walk (Ite K a) (enD ds).length (fun H => Ex G1 H) (YSrc (enD ds) G1) := by
  rw [enD_len, ← b.len]
  refine (walk_enum (K := K) (a := a) (xs := xs)).mono (fun H' k => hq H' k) fun i H2 y H3 hi k z Gc c1 c2 => ?_
  obtain ⟨T, x, y2, rfl, n, rfl, e1, e2⟩ := z
  cases e1
  obtain ⟨d, e3, r⟩ := b.at2 e2
  obtain ⟨p, r2⟩ := pair_new c2 n (Rp.int (i : Nat)) (r.up c1)
  exact ⟨_, _, p, enD_at e3, r2⟩
theorem ei_enum (h : EvD ta σ G (.list ds)) : EvI (iEnum K (tCons ta tNil)) σ G (enD ds) := fun H x R q => h H x _ fun v G1 H1 p r => by
  cases r with
  | @lst a xs _ e b => exact ⟨a, xs, rfl, .inl (.inl (p.sub _ _ e)), q _ G1 H1 p (enum_walk (fun H k => .inl (.inl (k _ _ e))) b)⟩

/-! ### comprehensions -/
def lcD (f : PyData → Bool) (F : PyData → PyData) (ds : List PyData) : List PyData := (ds.filter f).map F
theorem lcD_snoc {f : PyData → Bool} {F : PyData → PyData} {i : Nat} (h : ds[i]? = some d) : lcD f F (ds.take (i + 1)) = lcD f F (ds.take i) ++ (if f d = true then [F d] else []) := by
  unfold lcD
  rw [List.take_add_one, h, List.filter_append, List.map_append]
  cases q : f d with
  | true =>
    show _ ++ List.map F (List.filter f [d]) = _ ++ (if true = true then [F d] else [])
    rw [List.filter_cons, if_pos q, if_pos rfl]
    rfl
  | false =>
    show _ ++ List.map F (List.filter f [d]) = _ ++ (if false = true then [F d] else [])
    rw [List.filter_cons, if_neg (by rw [q]; decide), if_neg (by decide)]
    rfl
theorem lcD_len (f : PyData → Bool) (F : PyData → PyData) (ds : List PyData) : (lcD f F ds).length ≤ ds.length := by
  unfold lcD
  rw [List.length_map]
  exact List.length_filter_le f ds
theorem lcD_all (F : PyData → PyData) (ds : List PyData) : lcD (fun _ => true) F ds = ds.map F := by
  unfold lcD
  rw [List.filter_eq_self.mpr (fun _ _ => rfl)]
/-- one turn's target and what follows it -/
def Turn (g : TG) (tt : TT) (te : TE) (vs : List Nat) (f : PyData → Bool) (F : PyData → PyData) (σ : L2.St) (G : Hp) (its : List PyData) : Prop :=
  ∀ (i : Nat) (d : PyData) (x : V) (G' H' : Hp) (R : L2.St → Hp → Prop), Ex G G' → Ex G' H' → its[i]? = some d → Rp G' x d →
    (∀ σ2, wipe σ2 vs = wipe σ vs → EvT tt σ2 G' (f d) → (f d = true → EvD te σ2 G' (F d)) → R σ2 H') → g x (wipe σ vs) H' R
structure Acc (f : PyData → Bool) (F : PyData → PyData) (its : List PyData) (G H1 : Hp) (A : Addr) (i : Nat) (H' Gc : Hp) (acc : List V) : Prop where
  part : Part G H1 Gc H'
  off : Gc A = none
  there : H' A = some (.lst acc)
  rp : RpA Gc acc (lcD f F (its.take i))
theorem ed_lc {wi : TI} {g : TG} {tt : TT} {vs : List Nat} {its : List PyData} (f : PyData → Bool) (F : PyData → PyData) (h : EvI wi σ G its) (hz : its.length ≤ 100000) (ht : Turn g tt te vs f F σ G its) : EvD (tLc wi g tt te vs) σ G (.list (lcD f F its)) := fun H x Q q =>
  h H x _ fun J G1 H1 p W A hA => by
    refine lc_it W (fun i H' => ∃ Gc acc, Acc f F its G1 H1 A i H' Gc acc) ⟨G1, [], ⟨?_, ?_, upd_same, .nil⟩⟩ (fun i H' _ ⟨Gc, acc, a⟩ => a.part.ext.trans a.part.sub) ?_ ?_
    · exact (Part.refl p.sub).on (Ex.new hA)
    · exact fresh_back p.sub hA
    · intro i y H2 H3 hi ⟨Gc, acc, a⟩ hy
      obtain ⟨G2, d, p2, e1, r⟩ := hy Gc a.part.ext a.part.sub
      refine ht i d y G2 H3 _ ((p.ext.trans a.part.ext).trans p2.ext) p2.sub e1 r fun σ2 hw hT hE => ⟨hw, ?_⟩
      have pc : Part G1 H1 G2 H3 := a.part.trans p2
      have off2 : G2 A = none := by
        cases z : G2 A with
        | none => rfl
        | some o =>
          have k := p2.new A o z a.off
          rw [a.there] at k
          cases k
      refine hT H3 p2.sub _ fun H4 e4 => ?_
      have th4 : H4 A = some (.lst acc) := e4 _ _ (p2.old _ _ a.there)
      cases hf : f d with
      | true =>
        show te σ2 H4 fun y H5 => ∃ acc, H5 A = some (.lst acc) ∧ acc.length < sizeLine ∧ ∃ Gc acc2, Acc f F its G1 H1 A (i + 1) (upd H5 A (.lst (acc ++ [y]))) Gc acc2
        refine hE hf H4 (p2.sub.trans e4) _ fun y2 G5 H5 p5 r5 => ⟨acc, p5.old _ _ th4, ?_, G5, acc ++ [y2], ?_⟩
        · refine sz_lt ?_
          rw [a.rp.len]
          have l1 := lcD_len f F (its.take i)
          rw [List.length_take] at l1
          have l2 : i < its.length := hi
          omega
        · have off5 : G5 A = none := by
            cases z : G5 A with
            | none => rfl
            | some o =>
              have k := p5.new A o z off2
              rw [th4] at k
              cases k
          have pz := (pc.on e4).trans p5
          refine ⟨⟨pz.ext, fun b u k => ?_, fun b u k => ?_, pz.new⟩, off5, upd_same, ?_⟩
          · rw [upd_ne (ne_of_none k off5)]
            exact pz.sub b u k
          · rw [upd_ne (ne_of_none k hA)]
            exact pz.old b u k
          · rw [lcD_snoc e1, if_pos hf]
            exact (a.rp.up (p2.ext.trans p5.ext)).snoc (.cons r5 .nil)
      | false =>
        show ∃ Gc acc2, Acc f F its G1 H1 A (i + 1) H4 Gc acc2
        refine ⟨G2, acc, pc.on e4, off2, th4, ?_⟩
        rw [lcD_snoc e1, hf, if_neg (by decide), List.append_nil]
        exact a.rp.up p2.ext
    · intro H' ⟨Gc, acc, a⟩
      have rp := a.rp
      rw [List.take_length] at rp
      have pz := p.trans a.part
      refine q (.ref A) (upd Gc A (.lst acc)) H' ⟨pz.ext.trans (Ex.new a.off), fun b u k => ?_, pz.old, fun b u k n => ?_⟩ (.lst upd_same (rp.up (Ex.new a.off)))
      · by_cases e : b = A
        · subst e
          rw [upd_same] at k
          rw [← k]
          exact a.there
        · rw [upd_ne e] at k
          exact a.part.sub b u k
      · by_cases e : b = A
        · subst e
          exact fresh_back p.old hA
        · rw [upd_ne e] at k
          exact pz.new b u k n
/-- the target is one name -/
theorem turn_name {j : Nat} {tt : TT} {vs : List Nat} {its : List PyData} {f : PyData → Bool} {F : PyData → PyData} (hw : ∀ x, wipe ((wipe σ vs).set j (some x)) vs = wipe σ vs)
    (ht : ∀ (i : Nat) (d : PyData) (x : V) (G' : Hp), Ex G G' → its[i]? = some d → Rp G' x d → EvT tt ((wipe σ vs).set j (some x)) G' (f d)) (he : ∀ (i : Nat) (d : PyData) (x : V) (G' : Hp), Ex G G' → its[i]? = some d → Rp G' x d → f d = true → EvD te ((wipe σ vs).set j (some x)) G' (F d)) :
    Turn (gName j) tt te vs f F σ G its := fun i d x G' H' R e s hd r k => k _ (hw x) (ht i d x G' e hd r) (he i d x G' e hd r)
/-- two names, an item that is a pair -/
theorem turn_two {j l : Nat} {tt : TT} {vs : List Nat} {its : List PyData} {f : PyData → Bool} {F : PyData → PyData} (hp : ∀ d ∈ its, ∃ a b, d = .tuple [a, b]) (hw : ∀ x y, wipe (((wipe σ vs).set j (some x)).set l (some y)) vs = wipe σ vs)
    (ht : ∀ (i : Nat) (a b : PyData) (x y : V) (G' : Hp), Ex G G' → its[i]? = some (.tuple [a, b]) → Rp G' x a → Rp G' y b → EvT tt (((wipe σ vs).set j (some x)).set l (some y)) G' (f (.tuple [a, b])))
    (he : ∀ (i : Nat) (a b : PyData) (x y : V) (G' : Hp), Ex G G' → its[i]? = some (.tuple [a, b]) → Rp G' x a → Rp G' y b → f (.tuple [a, b]) = true → EvD te (((wipe σ vs).set j (some x)).set l (some y)) G' (F (.tuple [a, b]))) :
    Turn (gTup K 2 (gCons (gName j) (gCons (gName l) gNil))) tt te vs f F σ G its := fun i d x G' H' R e s hd r k => by
  obtain ⟨a, b, rfl⟩ := hp d (List.mem_of_getElem? hd)
  cases r with
  | @tup T xs _ et c =>
    cases c with
    | cons r1 c =>
      cases c with
      | cons r2 c =>
        cases c
        exact ⟨T, _, rfl, .inl (rd_up s et), rfl, _, _, rfl, _, _, rfl, rfl, k _ (hw _ _) (ht i a b _ _ G' e hd r1 r2) (he i a b _ _ G' e hd r1 r2)⟩
theorem et_yes : EvT tYes σ G true := fun H _ Q q => q H (Ex.refl H)
/-- for: a word of the turn, the slots and the heap; G1 what the source leans on -/
theorem d_for {wi : TI} {g : TG} {its : List PyData} (P : Part G0 H0 G H) (h : EvI wi σ G its) (Pv : Hp → Nat → L2.St → Hp → Prop) (h0 : ∀ G1 H1, Part G0 H0 G1 H1 → Ex G G1 → Ex H H1 → Pv G1 0 σ H1) (hG : ∀ G1 i σ' H', i ≤ its.length → Pv G1 i σ' H' → Ex G1 H')
    (hs : ∀ G1 i x σ' H1 H', i < its.length → Ex G G1 → Pv G1 i σ' H1 → YSrc its G1 i H1 x H' → g x σ' H' fun σ2 H2 => tu { D with nx := Pv G1 (i + 1), ct := Pv G1 (i + 1), bk := tz D } σ2 H2) (hd : ∀ G1 σ' H', Ex G G1 → Pv G1 its.length σ' H' → tz D σ' H') :
    tSeq (tFor wi g tu) tz D σ H := h H P.sub _ fun J G1 H1 p W =>
  for_it (D := { D with nx := tz D }) W (Pv G1) (h0 G1 H1 (P.trans p) p.ext p.old) (hG G1) (fun i x σ' Ha Hb hi q y => hs G1 i x σ' Ha Hb hi p.ext q y) (fun σ' H' q => hd G1 σ' H' p.ext q)
end
end Lm

set_option maxHeartbeats 2000000
/-! A def by its name: where it stands, how its arguments bind, what it promises; constants; some more rules. -/
namespace Lm
open PySem PySem.Spec PyProof.Rows L2 Evl

/-- the def called x keeps the promise sp, by at most k levels -/
structure Has (P : Program) (w : World) (K : PySem.W.Frag) (mg : Str → Option Value) (base : Heap) (x : Str) (ps : List Str) (k : Nat) (sp : Sp) : Prop where
  ex : ∃ f fd, mg x = some (.ref f) ∧ PySem.W.keepIn K (.ref f) = true ∧ Binds K fd ps [] ∧ FnOk P w K mg base (L2.CX P w) k f fd ps sp
/-- where a def of the text stands -/
structure At (K : PySem.W.Frag) (mg : Str → Option Value) (x : Str) (ps : List Str) (st : Stmt) (f : Addr) : Prop where
  g : mg x = some (.ref f)
  ex : ∃ fd, Fun K x x st f fd ∧ Binds K fd ps []
section
variable {P : Program} {w : World} {K : PySem.W.Frag} {mg : Str → Option Value} {base : Heap} {x : Str} {ps N : List Str} {st : Stmt} {k : Nat} {f : Addr}
theorem has_of {r : List PyData → Out → Prop} (a : At K mg x ps st f) (S : FnScope N ps (defScope st)) (hl : ∀ ds o, r ds o → ds.length = ps.length)
    (hbody : ∀ (cdv : Value) (A : Around) (outer : List Env) (s : Shared) (H : Hp) (vs : List V) (Q : VK) (E : XK), Room k (A.deeper (envOfC x (defScope st) s.heap.objs.size f cdv)) →
      (∃ t, PSs (cxOf (L2.CX P w) P w K mg base N x (defScope st) f cdv A outer s H E) (defBody st) t ∧
        ∀ G ds o, Ex G H → RpA G vs ds → r ds o → Want o G H Q E → t { nx := fun _ H' => Q .non H', rt := Q } (start N vs) H)) : Has P w K mg base x ps (k + 1) (spO r) := by
  obtain ⟨fd, F, b⟩ := a.ex
  refine ⟨f, fd, a.g, F.kp, b, F.okX S (fun vs H Q E h => ?_) (fun cdv A outer s H vs Q E hr h => ?_)⟩
  · obtain ⟨G, ds, o, _, rp, h, _⟩ := h
    rw [rp.len]
    exact hl ds o h
  · obtain ⟨t, h1, h2⟩ := hbody cdv A outer s H vs Q E hr
    obtain ⟨G, ds, o, e, rp, h, q⟩ := h
    exact ⟨t, h1, h2 G ds o e rp h q⟩
end
section
variable {X : Cx} {x : Str} {ps : List Str} {k : Nat} {sp : Sp} {E : XK} {p pos : Pos} {e : Expr} {es : List Expr} {t : TA}
theorem pe_callH (h : Has X.prog X.w X.K X.mg X.base x ps k sp) (hr : Room k X.A) (hg : Gl X x) (hx : Passes (L2.CX X.prog X.w) X E) (ha : PA X (e :: es) t) (hdb : (x == ("__debug__" : Str)) = false := by decide)
    (he : starEach (e :: es) X.env = (false, eval e X.env) :: starEach es X.env := by rfl) (hpl : (backTo pos (starEach es X.env)).any (·.1) = false := by rfl) : PE X (.Call (.Name x p) (e :: es) [] pos) (tCall sp [] E t) := by
  obtain ⟨f, fd, hm, hk, hb, F⟩ := h.ex
  exact pe_call F hr hg hm hk hb .nil hx ha hdb he hpl
theorem pe_callH0 (h : Has X.prog X.w X.K X.mg X.base x ps k sp) (hr : Room k X.A) (hg : Gl X x) (hx : Passes (L2.CX X.prog X.w) X E) (hdb : (x == ("__debug__" : Str)) = false := by decide) : PE X (.Call (.Name x p) [] [] pos) (tCall sp [] E tNil) := by
  obtain ⟨f, fd, hm, hk, hb, F⟩ := h.ex
  exact pe_call0 F hr hg hm hk hb .nil hx hdb
theorem pe_cst {n : Int} (hg : Gl X x) (h : ∃ t, X.mg x = some (.int n t)) (hd : (x == ("__debug__" : Str)) = false := by decide) : PE X (.Name x p) (tC (.int n)) := by
  obtain ⟨t, h⟩ := h
  exact pe_glob hg h ⟨_, rfl⟩ hd
theorem pe_csts {n : Str} (hg : Gl X x) (h : ∃ t, X.mg x = some (.str n t)) (hd : (x == ("__debug__" : Str)) = false := by decide) : PE X (.Name x p) (tC (.str n)) := by
  obtain ⟨t, h⟩ := h
  exact pe_glob hg h ⟨_, rfl⟩ hd
theorem pe_cls {C : Addr} (hg : Gl X x) (h : X.mg x = some (.ref C)) (hd : (x == ("__debug__" : Str)) = false := by decide) : PE X (.Name x p) (tC (.ref C)) := pe_glob hg h rfl hd
end
section
variable {K : PySem.W.Frag} {σ : L2.St} {G H : Hp} {ta tb tc : TE} {i j k : Int}
theorem ed_chain {p q : Int → Int → Bool} (h1 : EvD ta σ G (.int i)) (h2 : EvD tb σ G (.int j)) (h3 : EvD tc σ G (.int k)) :
    EvD (tChain (rI0 fun i j => .bl (p i j)) (rI0 fun i j => .bl (q i j)) ta tb tc) σ G (.bool (p i j && q j k)) := ofEv (v := .bl (p i j && q j k)) (fun H1 e1 Q c =>
  (h1.ev rfl) H1 e1 _ fun H2 e2 => (h2.ev rfl) H2 (e1.trans e2) _ fun H3 e3 => ⟨i, j, rfl, rfl, p i j, rfl, by
    cases z : p i j with
    | true =>
      show tc σ H3 _
      refine (h3.ev rfl) H3 ((e1.trans e2).trans e3) _ fun H4 e4 => ⟨j, k, rfl, rfl, ?_⟩
      have w := c H4 ((e2.trans e3).trans e4)
      rw [z] at w
      exact w
    | false =>
      show Q (.bl false) H3
      have w := c H3 (e2.trans e3)
      rw [z] at w
      exact w⟩) rfl
end
theorem one {G : Hp} {vs : List V} {d : PyData} (h : RpA G vs [d]) : ∃ v, vs = [v] ∧ Rp G v d := by
  cases h with
  | cons a b =>
    cases b
    exact ⟨_, rfl, a⟩
theorem two {G : Hp} {vs : List V} {d e : PyData} (h : RpA G vs [d, e]) : ∃ v w, vs = [v, w] ∧ Rp G v d ∧ Rp G w e := by
  cases h with
  | cons a b =>
    obtain ⟨w, rfl, r⟩ := one b
    exact ⟨_, w, rfl, a, r⟩
theorem three {G : Hp} {vs : List V} {d e f : PyData} (h : RpA G vs [d, e, f]) : ∃ v w u, vs = [v, w, u] ∧ Rp G v d ∧ Rp G w e ∧ Rp G u f := by
  cases h with
  | cons a b =>
    obtain ⟨w, u, rfl, r1, r2⟩ := two b
    exact ⟨_, w, u, rfl, a, r1, r2⟩
end Lm

set_option maxHeartbeats 2000000
/-! list(zip(t, u)) over data; piles and rows as data. -/
namespace Lm
open PySem PySem.Spec PyProof.Rows L2 Evl

def pairsD (ds es : List PyData) : List PyData := (ds.zip es).map fun p => .tuple [p.1, p.2]
section
variable {K : PySem.W.Frag} {σ : L2.St} {G G1 H H1 : Hp} {ta tb : TE} {ds es : List PyData}
theorem part_put {ts : List Addr} : ∀ {qs : List (V × V)} {G1 H1 : Hp}, Part G H G1 H1 → (∀ t ∈ ts, H1 t = none) → ts.Nodup → Part G H (LmZip.putP G1 ts qs) (LmZip.putP H1 ts qs) := by
  induction ts with
  | nil => exact fun p _ _ => p
  | cons t ts ih =>
    intro qs G1 H1 p hn hd
    cases qs with
    | nil => exact p
    | cons q qs =>
      have nd := List.nodup_cons.mp hd
      refine ih (p.add (hn t List.mem_cons_self)) (fun u hu => ?_) nd.2
      rw [upd_ne (fun z => nd.1 (by rw [← z]; exact hu))]
      exact hn u (List.mem_cons_of_mem _ hu)
theorem put_up {ts : List Addr} : ∀ {qs : List (V × V)} {G1 : Hp}, (∀ t ∈ ts, G1 t = none) → Ex G1 (LmZip.putP G1 ts qs) := fun {qs G1} hn a o e => by
  rw [LmZip.putP_off (fun z => by rw [hn a z] at e; cases e)]
  exact e
theorem put_rp : ∀ {ds es : List PyData} {ts : List Addr} {xs ys : List V} {G1 : Hp}, RpA G1 xs ds → RpA G1 ys es → ts.length = (xs.zip ys).length → ts.Nodup → (∀ t ∈ ts, G1 t = none) →
    RpA (LmZip.putP G1 ts (xs.zip ys)) (ts.map V.ref) (pairsD ds es)
  | [], es, ts, xs, ys, G1, r1, r2, hl, nd, hn => by
    cases r1
    have e : ts = [] := List.length_eq_zero_iff.mp (by rw [hl]; rfl)
    subst e
    exact .nil
  | d :: ds, [], ts, xs, ys, G1, r1, r2, hl, nd, hn => by
    cases r2
    have e : ts = [] := List.length_eq_zero_iff.mp (by rw [hl, List.zip_nil_right]; rfl)
    subst e
    exact .nil
  | d :: ds, e :: es, ts, xs, ys, G1, r1, r2, hl, nd, hn => by
    cases r1 with
    | @cons x xs _ _ a1 b1 =>
      cases r2 with
      | @cons y ys _ _ a2 b2 =>
        cases ts with
        | nil => cases hl
        | cons t ts =>
          have n2 := List.nodup_cons.mp nd
          have ht := hn t List.mem_cons_self
          have u1 : Ex G1 (upd G1 t (.tup [x, y])) := Ex.new ht
          have hn2 : ∀ u ∈ ts, (upd G1 t (.tup [x, y])) u = none := fun u hu => by
            rw [upd_ne (fun z => n2.1 (by rw [← z]; exact hu))]
            exact hn u (List.mem_cons_of_mem _ hu)
          have ih := put_rp (ds := ds) (es := es) (ts := ts) (b1.up u1) (b2.up u1) (Nat.succ.inj hl) n2.2 hn2
          have up2 : Ex (upd G1 t (.tup [x, y])) (LmZip.putP (upd G1 t (.tup [x, y])) ts (xs.zip ys)) := put_up hn2
          refine .cons (.tup (.inl (up2 _ _ upd_same)) (.cons (a1.up (u1.trans up2)) (.cons (a2.up (u1.trans up2)) .nil))) ih
theorem ed_listZip (h : EvD ta σ G (.tuple ds)) (k : EvD tb σ G (.tuple es)) : EvD (tCB (LmZip.rLz K) (tCons ta (tCons tb tNil))) σ G (.list (pairsD ds es)) := fun H x Q q =>
  h H x _ fun v G1 H1 p r => (k.mono p.ext) H1 p.sub _ fun w G2 H2 p2 r2 => by
    cases r with
    | @tup a xs _ e1 b1 =>
      cases r2 with
      | @tup b ys _ e2 b2 =>
        refine ⟨a, b, xs, ys, rfl, .inl (rd_up (p2.ext.trans p2.sub) e1), .inl (rd_up p2.sub e2), fun l ts n hn nl nd hl => ?_⟩
        have pz := (p.trans p2).add (o := .lst (ts.map V.ref)) n
        have gn : G2 l = none := fresh_back p2.sub n
        have hn1 : ∀ t ∈ ts, (upd H2 l (.lst (ts.map V.ref))) t = none := fun t ht => by
          rw [upd_ne (fun z => nl (by rw [← z]; exact ht))]
          exact hn t ht
        have gn1 : ∀ t ∈ ts, (upd G2 l (.lst (ts.map V.ref))) t = none := fun t ht => fresh_back pz.sub (hn1 t ht)
        have u1 : Ex G2 (upd G2 l (.lst (ts.map V.ref))) := Ex.new gn
        refine q (.ref l) _ _ (part_put pz hn1 nd) (.lst (put_up gn1 _ _ upd_same) (put_rp (b1.up (p2.ext.trans u1)) (b2.up u1) hl nd gn1))
end

/-! ### places, piles, rows -/
def isPlaceD : PyData → Bool
  | .int i => decide (0 ≤ i) && decide (i ≤ 99)
  | _ => false
def toI : PyData → Int
  | .int i => i
  | _ => 0
def nx (ns : List Int) : List (Int × Int) := ns.zip (ns.drop 1)
def isPileD : PyData → Bool
  | .tuple ds => decide (ds.length ≤ 240) && (ds.all isPlaceD && (nx (ds.map toI)).all fun p => decide (p.1 ≤ p.2))
  | _ => false
def looseD : PyData → Bool
  | .tuple ds => (nx (ds.map toI)).all fun p => decide (1 < p.2 - p.1)
  | _ => false
def isRowD (d : PyData) : Bool := isPileD d && looseD d
/-- its type is known, its entries' too -/
def plainD : PyData → Bool
  | .tuple ds => ds.all fun d => (tyD d).isSome
  | d => (tyD d).isSome
theorem places_ints : ∀ {ds : List PyData}, ds.all isPlaceD = true → ds = (ds.map toI).map .int
  | [], _ => rfl
  | d :: ds, h => by
    rw [List.all_cons, Bool.and_eq_true] at h
    have ih := places_ints h.2
    cases d with
    | int i =>
      show PyData.int i :: ds = PyData.int i :: (ds.map toI).map .int
      rw [← ih]
    | _ => cases h.1
def rPlace : List PyData → Out → Prop := fun ds o => ∃ d, ds = [d] ∧ (tyD d).isSome = true ∧ o = .val (.bool (isPlaceD d))
def rNext : List PyData → Out → Prop := fun ds o => ∃ l, ds = [.tuple l] ∧ o = .val (.list (pairsD l (l.drop 1)))
def rIsPile : List PyData → Out → Prop := fun ds o => ∃ d, ds = [d] ∧ plainD d = true ∧ o = .val (.bool (isPileD d))
def rIsRow : List PyData → Out → Prop := fun ds o => ∃ d, ds = [d] ∧ plainD d = true ∧ o = .val (.bool (isRowD d))
theorem tyD_known {d : PyData} {T : String} (h : tyD d = some T) : LmType.Known T := by
  unfold LmType.Known
  cases d with
  | none => cases h; simp
  | bool _ => cases h; simp
  | int _ => cases h; simp
  | str _ => cases h; simp
  | list _ => cases h; simp
  | tuple _ => cases h; simp
  | dict l =>
    cases l with
    | nil => cases h; simp
    | cons a b => cases h
theorem known_int : LmType.Known "int" := .inl rfl
theorem known_tuple : LmType.Known "tuple" := by
  unfold LmType.Known
  simp
theorem known_list : LmType.Known "list" := by
  unfold LmType.Known
  simp
theorem cut1D (ds : List PyData) : cutD ds (some 1) none = ds.drop 1 := by
  unfold cutD
  rw [show HT.sIx ds.length 0 (some 1) = min 1 ds.length from HT.sIx_nat ds.length 0 1, HT.sIx_none]
  cases ds with
  | nil => rfl
  | cons d ds =>
    rw [show min 1 (d :: ds).length = 1 by rw [List.length_cons]; omega]
    show List.take ((d :: ds).length - 1) ds = ds
    rw [List.length_cons, Nat.add_sub_cancel, List.take_length]
theorem tyD_int {d : PyData} (h : tyD d = some "int") : ∃ i, d = .int i := by
  cases d with
  | int i => exact ⟨i, rfl⟩
  | dict l => cases l <;> simp [tyD] at h
  | _ => simp [tyD] at h
theorem tyD_tuple {d : PyData} (h : tyD d = some "tuple") : ∃ l, d = .tuple l := by
  cases d with
  | tuple l => exact ⟨l, rfl⟩
  | dict l => cases l <;> simp [tyD] at h
  | _ => simp [tyD] at h
theorem tyD_list {d : PyData} (h : tyD d = some "list") : ∃ l, d = .list l := by
  cases d with
  | list l => exact ⟨l, rfl⟩
  | dict l => cases l <;> simp [tyD] at h
  | _ => simp [tyD] at h
theorem tyD_not {d : PyData} {S : String} (h : tyD d = some S) (n : S ≠ "int") : isPlaceD d = false := by
  cases d with
  | int i => exact absurd (Option.some.inj h).symm n
  | _ => rfl
theorem tyD_notT {d : PyData} {S : String} (h : tyD d = some S) (n : S ≠ "tuple") : isPileD d = false := by
  cases d with
  | tuple l => exact absurd (Option.some.inj h).symm n
  | _ => rfl
theorem plain_ty {d : PyData} (h : plainD d = true) : ∃ S, tyD d = some S := by
  cases d with
  | tuple l => exact ⟨_, rfl⟩
  | dict l => cases l with
    | nil => exact ⟨_, rfl⟩
    | cons a b => cases h
  | _ => exact ⟨_, rfl⟩
theorem pairs_ints (ns ms : List Int) : pairsD (ns.map .int) (ms.map .int) = (ns.zip ms).map fun p => .tuple [.int p.1, .int p.2] := by
  unfold pairsD
  rw [List.zip_map, List.map_map]
  rfl
theorem isPile_tuple (ds : List PyData) : isPileD (.tuple ds) = (decide (ds.length ≤ 240) && (ds.all isPlaceD && (nx (ds.map toI)).all fun p => decide (p.1 ≤ p.2))) := rfl
theorem nx_pairs (ns : List Int) : pairsD (ns.map .int) ((ns.map PyData.int).drop 1) = (nx ns).map fun p => .tuple [.int p.1, .int p.2] := by
  rw [← List.map_drop, pairs_ints]
  rfl
section
variable {K : PySem.W.Frag} {σ : L2.St} {G H : Hp} {te te2 : TE}
/-- all([f(a, b) for a, b in the pairs]) -/
theorem ed_allPairs {j l : Nat} (f : Int → Int → Bool) {qs : List (Int × Int)} (h : EvD te σ G (.list (qs.map fun p => .tuple [.int p.1, .int p.2]))) (hz : qs.length ≤ 100000)
    (hw : ∀ x y, wipe (((wipe σ [j, l]).set j (some x)).set l (some y)) [j, l] = wipe σ [j, l]) (he : ∀ (a b : Int) (G' : Hp), EvD te2 (((wipe σ [j, l]).set j (some (.int a))).set l (some (.int b))) G' (.bool (f a b))) :
    EvD (tCB (rAll K) (tCons (tLc (iList K te) (gTup K 2 (gCons (gName j) (gCons (gName l) gNil))) tYes te2 [j, l]) tNil)) σ G (.bool (qs.all fun p => f p.1 p.2)) := by
  refine (ed_all (bs := qs.map fun p => f p.1 p.2) ((ed_lc (fun _ => true) (fun d => match d with | .tuple [.int a, .int b] => .bool (f a b) | _ => .none) (ei_list h) ?_ (turn_two ?_ hw (fun _ _ _ _ _ _ _ _ _ _ => et_yes) fun i a b x y G' e' hi ra rb _ => ?_)).is ?_)).is ?_
  · rw [List.length_map]
    exact hz
  · intro d hd
    obtain ⟨z, _, e3⟩ := List.mem_map.mp hd
    exact ⟨_, _, e3.symm⟩
  · rw [List.getElem?_map] at hi
    cases hq : qs[i]? with
    | none =>
      rw [hq] at hi
      cases hi
    | some p =>
      rw [hq] at hi
      have e1 : PyData.tuple [.int p.1, .int p.2] = .tuple [a, b] := Option.some.inj hi
      cases e1
      cases ra
      cases rb
      exact he p.1 p.2 G'
  · rw [lcD_all, List.map_map, List.map_map]
    rfl
  · rw [List.all_map]
    rfl
end
/-! ### what marks are worth -/
def fw : Nat → Int
  | 0 => 1
  | 1 => 2
  | k + 2 => fw k + fw (k + 1)
def fws (n : Nat) : List Int := (List.range n).map fw
theorem fws_len (n : Nat) : (fws n).length = n := by
  unfold fws
  rw [List.length_map, List.length_range]
theorem fws_at {n k : Nat} (h : k < n) : (fws n)[k]? = some (fw k) := by
  unfold fws
  rw [List.getElem?_map, List.getElem?_range h]
  rfl
theorem fws_succ (n : Nat) : fws (n + 1) = fws n ++ [fw n] := by
  unfold fws
  rw [List.range_succ, List.map_append]
  rfl
theorem atI_neg {α : Type} {xs : List α} {i : Int} {j : Nat} (h0 : i < 0) (h : i + xs.length = (j : Int)) : atI xs i = xs[j]? := by
  unfold atI ixN
  rw [if_neg (by omega), if_pos (by omega), h]
  rfl
theorem atI_pos {α : Type} {xs : List α} {i : Int} (h0 : 0 ≤ i) : atI xs i = xs[i.toNat]? := by
  unfold atI ixN
  rw [if_pos h0]
  by_cases h : i < xs.length
  · rw [if_pos h]
    rfl
  · rw [if_neg h, List.getElem?_eq_none (by omega)]
    rfl
section
variable {K : PySem.W.Frag} {σ : L2.St} {G H H' : Hp} {p : Addr} {xs : List V} {ds : List PyData}
theorem part_new {o : HO} (e : Ex G H) (n : H p = none) (x : Ex H H') (h : H' p = some o) : Part G H (upd G p o) H' where
  ext := Ex.new (fresh_back e n)
  sub := fun a u k => by
    by_cases z : a = p
    · subst z
      rw [upd_same] at k
      rw [← k]
      exact h
    · rw [upd_ne z] at k
      exact x _ _ (e _ _ k)
  old := x
  new := fun a u k m => by
    by_cases z : a = p
    · subst z
      exact n
    · rw [upd_ne z, m] at k
      cases k
/-- return of a list that was made here and has grown -/
theorem d_retNew {i : Nat} {D : Ends} {E : XK} (e : Ex G H) (n : H p = none) (x : Ex H H') (h : H' p = some (.lst xs)) (r : RpA G xs ds) (s : σ[i]? = some (some (.ref p))) (q : Want (.val (.list ds)) G H D.rt E) : tRet (tVar i) D σ H' :=
  ⟨.ref p, s, q (.ref p) _ H' (part_new e n x h) (.lst upd_same (r.up (Ex.new (fresh_back e n))))⟩
end
def rWorths (n : Nat) : List PyData → Out → Prop := fun ds o => ds = [] ∧ o = .val (.list ((fws n).map .int))
def rNeedP (C : Addr) : List PyData → Out → Prop := fun ds o => ∃ d, ds = [d] ∧ plainD d = true ∧ o = if isPileD d = true then .val .none else .err C
def rNeedR (C : Addr) : List PyData → Out → Prop := fun ds o => ∃ d, ds = [d] ∧ plainD d = true ∧ o = if isRowD d = true then .val .none else .err C
/-! ### sorting -/
def insI (n : Int) : List Int → List Int
  | [] => [n]
  | m :: ms => if n ≤ m then n :: m :: ms else m :: insI n ms
def srt : List Int → List Int
  | [] => []
  | n :: ns => insI n (srt ns)
theorem insI_perm (n : Int) : ∀ ms : List Int, (insI n ms).Perm (n :: ms)
  | [] => .refl _
  | m :: ms => by
    unfold insI
    by_cases h : n ≤ m
    · rw [if_pos h]
    · rw [if_neg h]
      exact ((insI_perm n ms).cons m).trans (.swap n m ms)
theorem insI_rise (n : Int) : ∀ {ms : List Int}, ms.Pairwise (· ≤ ·) → (insI n ms).Pairwise (· ≤ ·)
  | [], _ => List.pairwise_singleton _ _
  | m :: ms, h => by
    have h2 := List.pairwise_cons.mp h
    unfold insI
    by_cases c : n ≤ m
    · rw [if_pos c]
      refine List.pairwise_cons.mpr ⟨fun a ha => ?_, h⟩
      rcases List.mem_cons.mp ha with e | ha
      · rw [e]
        exact c
      · exact Int.le_trans c (h2.1 a ha)
    · rw [if_neg c]
      refine List.pairwise_cons.mpr ⟨fun a ha => ?_, insI_rise n h2.2⟩
      rcases List.mem_cons.mp ((insI_perm n ms).mem_iff.mp ha) with e | ha
      · rw [e]
        omega
      · exact h2.1 a ha
theorem srt_perm : ∀ ns : List Int, (srt ns).Perm ns
  | [] => .refl _
  | n :: ns => (insI_perm n (srt ns)).trans ((srt_perm ns).cons n)
theorem srt_rise : ∀ ns : List Int, (srt ns).Pairwise (· ≤ ·)
  | [] => .nil
  | n :: ns => insI_rise n (srt_rise ns)
theorem rise_one : ∀ {ks ms : List Int}, ks.Perm ms → ks.Pairwise (· ≤ ·) → ms.Pairwise (· ≤ ·) → ks = ms
  | [], ms, p, _, _ => (List.Perm.eq_nil p.symm).symm
  | k :: ks, [], p, _, _ => absurd p.eq_nil (List.cons_ne_nil _ _)
  | k :: ks, m :: ms, p, h1, h2 => by
    have a1 := List.pairwise_cons.mp h1
    have a2 := List.pairwise_cons.mp h2
    have e : k = m := by
      have i1 : k ∈ m :: ms := p.mem_iff.mp List.mem_cons_self
      have i2 : m ∈ k :: ks := p.mem_iff.mpr List.mem_cons_self
      rcases List.mem_cons.mp i1 with e | i1
      · exact e
      · rcases List.mem_cons.mp i2 with e | i2
        · exact e.symm
        · have := a1.1 m i2
          have := a2.1 k i1
          omega
    subst e
    rw [rise_one p.cons_inv a1.2 a2.2]
theorem srt_one {ks ns : List Int} (p : ks.Perm ns) (h : ks.Pairwise (· ≤ ·)) : ks = srt ns := rise_one (p.trans (srt_perm ns).symm) h (srt_rise ns)
theorem srt_len (ns : List Int) : (srt ns).length = ns.length := (srt_perm ns).length_eq
theorem rise_nx : ∀ {ns : List Int}, ns.Pairwise (· ≤ ·) → ((nx ns).all fun p => decide (p.1 ≤ p.2)) = true
  | [], _ => rfl
  | [_], _ => rfl
  | a :: b :: r, h => by
    have h2 := List.pairwise_cons.mp h
    show (decide (a ≤ b) && (nx (b :: r)).all fun p => decide (p.1 ≤ p.2)) = true
    rw [rise_nx h2.2, decide_eq_true (h2.1 b List.mem_cons_self)]
    rfl
theorem nx_rise : ∀ {ns : List Int}, ((nx ns).all fun p => decide (p.1 ≤ p.2)) = true → ns.Pairwise (· ≤ ·)
  | [], _ => .nil
  | [_], _ => List.pairwise_singleton _ _
  | a :: b :: r, h => by
    have h1 : (decide (a ≤ b) && (nx (b :: r)).all fun p => decide (p.1 ≤ p.2)) = true := h
    rw [Bool.and_eq_true] at h1
    have ih := nx_rise h1.2
    have h0 := of_decide_eq_true h1.1
    refine List.pairwise_cons.mpr ⟨fun c hc => ?_, ih⟩
    rcases List.mem_cons.mp hc with e | hc
    · rw [e]
      exact h0
    · exact Int.le_trans h0 ((List.pairwise_cons.mp ih).1 c hc)
/-! ### piles of ints -/
def inI (n : Int) : Bool := decide (0 ≤ n) && decide (n ≤ 99)
def pileI (ns : List Int) : Bool := decide (ns.length ≤ 240) && (ns.all inI && (nx ns).all fun p => decide (p.1 ≤ p.2))
theorem toI_map (ns : List Int) : (ns.map PyData.int).map toI = ns := by
  rw [List.map_map]
  show ns.map (fun n => n) = ns
  rw [List.map_id']
theorem places_map (ns : List Int) : (ns.map PyData.int).all isPlaceD = ns.all inI := by
  rw [List.all_map]
  rfl
theorem isPile_ints (ns : List Int) : isPileD (.tuple (ns.map .int)) = pileI ns := by
  rw [isPile_tuple, toI_map, places_map, List.length_map]
  rfl
theorem plain_ints (ns : List Int) : plainD (.tuple (ns.map .int)) = true := by
  show ((ns.map PyData.int).all fun d => (tyD d).isSome) = true
  rw [List.all_map]
  exact List.all_eq_true.mpr fun _ _ => rfl
theorem all_perm {ks ns : List Int} (p : ks.Perm ns) (f : Int → Bool) : ks.all f = ns.all f := by
  rw [Bool.eq_iff_iff, List.all_eq_true, List.all_eq_true]
  exact ⟨fun h x hx => h x (p.mem_iff.mpr hx), fun h x hx => h x (p.mem_iff.mp hx)⟩
theorem pile_srt (ns : List Int) : pileI (srt ns) = (decide (ns.length ≤ 240) && ns.all inI) := by
  unfold pileI
  rw [srt_len, all_perm (srt_perm ns), rise_nx (srt_rise ns), Bool.and_true]
def rPileOf (C : Addr) : List PyData → Out → Prop := fun ds o => ∃ l, ds = [.list l] ∧ (l.all fun d => (tyD d).isSome) = true ∧ l.length ≤ 100000 ∧
  o = if (decide (l.length ≤ 240) && l.all isPlaceD) = true then .val (.tuple ((srt (l.map toI)).map .int)) else .err C
def worthI (ns : List Int) : Int := (ns.map fun i => fw i.toNat).sum
def worthD : PyData → Int
  | .tuple ds => worthI (ds.map toI)
  | _ => 0
def rWorth (C : Addr) : List PyData → Out → Prop := fun ds o => ∃ d, ds = [d] ∧ plainD d = true ∧ o = if isPileD d = true then .val (.int (worthD d)) else .err C
end Lm

set_option maxHeartbeats 2000000
/-! {e for .. in ..} of numbers: a set that one walk fills. -/
namespace LmSet
open PySem PySem.Spec PyProof.Rows L2 PpSet

/-- the empty set, as it is laid -/
abbrev emptyO (w : World) : Obj := { cls := .type "set", dict := none, data := .set #[] 0 (.fresh 0 0 (!w.params.followText "set-order")) }
/-- one more number -/
abbrev moreO (w : World) (D : Addr) (S : Int → Bool) (m : Nat) (k : Int) : HO := SetO w D (fun j => S j || decide (j = k)) (if S k = true then m else m + 1)
/-- the reading: at most n turns; Pv i: ahead of turn i -/
def tSi (w : World) (wi : TI) (g : TG) (tt : TT) (te : TE) (vs : List Nat) : TE := fun σ H Q => wi σ H fun J H1 => ∀ D, H1 D = none → ∃ (Pv : Nat → Hp → Prop) (n : Nat), Pv 0 (upd H1 D (SetO w D (fun _ => false) 0)) ∧
  ∀ i Hi, i ≤ n → Pv i Hi → (J.stop i Hi ∧ Q (.ref D) Hi) ∨ (J.go i Hi ∧ i < n ∧ ∀ x Hx, J.yld i Hi x Hx → g x (wipe σ vs) Hx fun σg Hg => wipe σg vs = wipe σ vs ∧ tt σg Hg fun b Ht =>
    if b = true then te σg Ht fun y He => ∃ (k : Int) (S : Int → Bool) (m : Nat), y = .int k ∧ He D = some (SetO w D S m) ∧ m + 1 < scanBound ∧ Pv (i + 1) (upd He D (moreO w D S m k)) else Pv (i + 1) Ht)
section
variable {X : Cx}
/-- what stands before a block still stands within it -/
theorem held {s0 : Shared} {H0 : Hp} {scope : Scope} {ce : Env} {fp : List Addr} {τ : L2.St} {Hn : Hp} {sn : Shared} (J : Inv (X.blk s0 H0 scope ce fp) [] τ Hn sn) (z : ∀ b ∈ fp, Hn b = none) : ∀ b ∈ fp, FpOk (X.blk s0 H0 scope ce fp) [] Hn b :=
  fun b hb => And.intro (z b hb) ⟨(J.ok.exf b hb).1, J.ok.exfs b hb, .inl hb, fun x c q => (J.ok.exf b hb).2 x c q, fun p hp => by cases (show p ∈ ([] : List (Addr × Obj)) from hp)⟩
theorem pe_setI {elt tg iter : Expr} {ifs : List Expr} {scope : Scope} {own : List (PySem.Str × Nat)} {pos : Pos} {wi : TI} {g : TG} {tt : TT} {te : TE} (hc : X.calm = true) (hN : X.N.Nodup) (hi : PI X tg iter wi) (bo : BlkOk X.N X.env.scope scope own)
    (hg : ∀ s H C cl fp, PG (X.blk s H scope (compEnvC scope cl C X.env) fp) tg g) (ht : ∀ s H C cl fp, PTs (X.blk s H scope (compEnvC scope cl C X.env) fp) ifs tt) (he : ∀ s H C cl fp, PE (X.blk s H scope (compEnvC scope cl C X.env) fp) elt te)
    (hs : ∀ x, foldedSetIterable iter X.env x = pure x := by intro _; rfl) : PE X (.SetComp elt [⟨tg, iter, ifs, 0⟩] scope pos) (tSi X.w wi g tt te (own.map (·.2))) := by
  constructor
  intro pins s σ H Q I h
  have cl : ∀ y ∈ scope.names, y.2 = .free → ∃ c, X.env.cells.lookup y.1 = some c := by
    intro y hy e
    cases bo.free y hy e with
    | inl k => exact I.ok.has _ (.inl k)
    | inr k => exact I.ok.has _ (.inr k)
  rw [eval_SetComp]
  refine wpAny_comprehension_free (use := none) rfl hs (closure_ok cl) bo.kind (fun y hy e => (bo.uniq y hy).trans (by rw [e])) (thn (hi.run pins s σ H _ I h) ?_)
  intro xv s1 hx
  refine thn hx ?_
  rintro itv s2 ⟨it, fp, tn, J, H2, rfl, I2, T, st2, f2, q⟩
  -- the new set's place, then the block's own frame
  obtain ⟨D, eD⟩ : ∃ D, D = s2.heap.objs.size := ⟨_, rfl⟩
  refine newSet_ok (newEnv_comp ?_)
  rw [← eD]
  obtain ⟨Pv, n, p0, turn⟩ := q D (I2.hok.fresh (Nat.le_of_eq eD.symm))
  obtain ⟨s3, e3⟩ : ∃ s3 : Shared, s3 = { s2 with heap := s2.heap.push (emptyO X.w) } := ⟨_, rfl⟩
  have old3 : ∀ b o, s2.heap.get? b = some o → s3.heap.get? b = some o := fun b o z => by rw [e3]; exact Heap.get?_push_of_some _ z
  have I3 : Inv X pins σ (upd H2 D (SetO X.w D (fun _ => false) 0)) s3 := by
    subst e3
    exact I2.laid (t' := s2.toks) (fun b o z => Heap.get?_push_of_some _ z) (Nat.le_of_eq eD.symm) (by rw [eD]; exact setO_new (setR_fresh X.w))
  have below : ∀ b ∈ fp, b < D := fun b hb => by
    obtain ⟨o, z, _⟩ := T.obj _ _ st2 b hb
    rw [eD]
    exact Heap.lt_size z
  have f3 : ∀ b ∈ fp, FpOk X pins (upd H2 D (SetO X.w D (fun _ => false) 0)) b ∧ b < s3.heap.objs.size := fun b hb => by
    refine ⟨⟨?_, (f2 b hb).2⟩, ?_⟩
    · rw [upd_ne (Nat.ne_of_lt (below b hb))]
      exact (f2 b hb).1
    · rw [e3, Heap.size_push, ← eD]
      exact Nat.lt_succ_of_lt (below b hb)
  have st3 : tn 0 s3.heap := T.keep _ _ _ st2 fun b _ o z => old3 b o z
  rw [← e3]
  have I4 := block_start I3 bo hN f3
  have pg := hg s3 (upd H2 D (SetO X.w D (fun _ => false) 0)) s3.heap.objs.size (cellsFrom (s3.heap.objs.size + 1) scope.names (cloFrom X.env.cells scope.names [])) fp
  have pt := ht s3 (upd H2 D (SetO X.w D (fun _ => false) 0)) s3.heap.objs.size (cellsFrom (s3.heap.objs.size + 1) scope.names (cloFrom X.env.cells scope.names [])) fp
  have pe := he s3 (upd H2 D (SetO X.w D (fun _ => false) 0)) s3.heap.objs.size (cellsFrom (s3.heap.objs.size + 1) scope.names (cloFrom X.env.cells scope.names [])) fp
  show codeAny _ _ (.compStart _ 0 (.ref it) (.ref D) (compEnvC scope (cellsFrom (s3.heap.objs.size + 1) scope.names (cloFrom X.env.cells scope.names [])) s3.heap.objs.size X.env)) _ _
  obtain ⟨ce, ece⟩ : ∃ ce, ce = compEnvC scope (cellsFrom (s3.heap.objs.size + 1) scope.names (cloFrom X.env.cells scope.names [])) s3.heap.objs.size X.env := ⟨_, rfl⟩
  have loc : ce.locals = s3.heap.objs.size := by rw [ece]; rfl
  rw [← ece] at I4 pg pt pe ⊢
  clear ece
  generalize upd H2 D (SetO X.w D (fun _ => false) 0) = H3 at *
  obtain ⟨s4, e4⟩ : ∃ s4 : Shared, s4 = { s3 with heap := pushCells (s3.heap.push { cls := .type "dict", data := .dict #[] }) scope.names } := ⟨_, rfl⟩
  rw [← e4] at I4
  have st4 : tn 0 s4.heap := T.keep _ _ _ st3 fun b _ o z => by
    rw [e4]
    exact pushCells_keeps _ _ _ _ (Heap.get?_push_of_some _ z)
  rw [← e4]
  suffices loop : codeAny (model X.prog X.w) X.A (.compLoop (.SetComp elt [⟨tg, iter, ifs, 0⟩] scope pos) 0 (.ref it) (.ref D) ce) (compPost (model X.prog X.w) X.A X.xe none (EP X pins σ Q) (.ref D) s3.heap.objs.size) s4 from
    codeAny_compStart_set loop (T.self X.A 0 _ _ _ st4 loop)
  refine compLoopS_any (fun m u => ∃ i Hi, i + m = n ∧ Inv (X.blk s3 H3 scope ce fp) [] (wipe σ (own.map (·.2))) Hi u ∧ tn i u.heap ∧ (∀ b ∈ fp, Hi b = none) ∧ Pv i Hi) ?_ n ⟨0, H3, Nat.zero_add n, I4, st4, fun b hb => (f3 b hb).1.1, p0⟩
  · intro m u ⟨i, Hi, hm, Iu, su, nu, pu⟩
    cases turn i Hi (by omega) pu with
    | inl z =>
      -- the walk is at its end
      refine thnF (T.done (X.blk s3 H3 scope ce fp) rfl rfl rfl hc i [] u _ Hi (fun _ _ => False) Iu (held Iu nu) su z.1) fun r v hr => ?_
      obtain ⟨rfl, Iv⟩ := hr
      have Io : Inv X pins σ Hi v := I3.call' (ch := fp) Iv.os Iv.base Iv.hok Iv.bare fun b hb => by
        obtain ⟨_, a1, a2, a3, a4, a5⟩ := (f3 b hb).1
        exact ⟨a3, a1, a4, a5⟩
      have free : Hi s3.heap.objs.size = none := loc ▸ (show Hi ce.locals = none from Iv.free)
      obtain ⟨mm, hn, _⟩ := Iv.loc
      have hn2 : v.heap.Ns s3.heap.objs.size mm := loc ▸ (show v.heap.Ns ce.locals mm from hn)
      obtain ⟨c0, c1, c2, c3, c4, c5⟩ := I3.fpOk (Nat.le_refl _) free
      exact ⟨mm, hn2, fun h2 sb => ⟨.ref D, Hi, Io.turned (t' := v.toks) (fun b o hb z => (sb.2 b hb).trans z) c0 c1 c3 c4 c5, rfl, z.2⟩⟩
    | inr z =>
      obtain ⟨go, lt, step⟩ := z
      refine thnF (T.item (X.blk s3 H3 scope ce fp) rfl rfl rfl hc i [] u _ Hi (fun _ _ => False) Iu (held Iu nu) su go) fun r v ⟨c, hr, hv⟩ => ?_
      subst hr
      refine thnF hv fun _ v1 ⟨x, H7, I7, r7, y7, st7, n7⟩ => ?_
      have P7 := I7.pinned (held I7 n7) (T.obj _ _ st7)
      refine thnF (pg.run _ v1 _ H7 x c _ P7 r7 (step x H7 y7)) fun _ v2 ⟨σ8, H8, I8, w8, q8⟩ => thnF (pt.run _ v2 σ8 H8 _ I8 q8) fun b v3 ⟨H9, I9, q9⟩ => ?_
      have next : ∀ (v' : Shared) (H' : Hp), Inv (X.blk s3 H3 scope ce fp) ([] ++ pinsAt fp v1.heap) σ8 H' v' → Pv (i + 1) H' →
          ∃ m', m' < m ∧ ∃ i Hi, i + m' = n ∧ Inv (X.blk s3 H3 scope ce fp) [] (wipe σ (own.map (·.2))) Hi v' ∧ tn i v'.heap ∧ (∀ b ∈ fp, Hi b = none) ∧ Pv i Hi := by
        intro v' H' I' p'
        have still : ∀ b ∈ fp, ∀ o, v1.heap.get? b = some o → v'.heap.get? b = some o ∧ H' b = none := by
          intro b hb o z
          have y := I'.pin (b, o) (List.mem_append_right _ (List.mem_append_right _ (mem_pinsAt hb z)))
          exact ⟨y.1, y.2.1⟩
        have len : (wipe σ (own.map (·.2))).length = σ8.length := by rw [← w8, wipe_length]
        refine ⟨m - 1, by omega, i + 1, H', by omega, (I'.unpinned (pins := [])).weak len fun j y z => ?_, T.keep _ _ _ st7 fun b hb o z => (still b hb o z).1, fun b hb => ?_, p'⟩
        · rw [← w8] at z
          exact (wipe_some z).1
        · obtain ⟨o, z, _⟩ := T.obj _ _ st7 b hb
          exact (still b hb o z).2
      cases b with
      | false => exact next _ _ I9 q9
      | true =>
        refine thnF (pe.run _ v3 σ8 H9 _ I9 q9) fun a v4 ⟨y, H10, I10, r10, k, S, c2, ey, hD, room, p10⟩ => ?_
        subst ey
        refine thnF (mt_sadd (X := X.blk s3 H3 scope ce fp) _ v4 σ8 H10 (.ref D) [.int k] (.ref D) [a] (fun y H => y = .non ∧ Pv (i + 1) H) I10 rfl (Paired.cons r10 .nil) ⟨D, k, S, c2, rfl, rfl, hD, room, rfl, p10⟩) ?_
        rintro _ v5 ⟨y5, H5, I5, _, _, p5⟩
        exact next _ _ I5 p5
end
end LmSet

set_option maxHeartbeats 2000000
/-! sorted({..}) of numbers, as plain data -/
namespace Lm
open PySem PySem.Spec PyProof.Rows L2 Evl LmSet
/-- the numbers that a walk keeps -/
def Kept (f : PyData → Bool) (F : PyData → Int) (ds : List PyData) (k : Int) : Prop := ∃ d, d ∈ ds ∧ f d = true ∧ F d = k
theorem kept_snoc {f : PyData → Bool} {F : PyData → Int} {ds : List PyData} {d : PyData} {i : Nat} {k : Int} (h : ds[i]? = some d) : Kept f F (ds.take (i + 1)) k ↔ Kept f F (ds.take i) k ∨ (f d = true ∧ F d = k) := by
  unfold Kept
  rw [List.take_add_one, h]
  constructor
  · rintro ⟨x, hx, r⟩
    rcases List.mem_append.mp hx with hx | hx
    · exact .inl ⟨x, hx, r⟩
    · have e : x = d := by simpa using hx
      exact .inr (e ▸ r)
  · rintro (⟨x, hx, r⟩ | r)
    · exact ⟨x, List.mem_append_left _ hx, r⟩
    · exact ⟨d, List.mem_append_right _ (by simp), r⟩
theorem strict_one {ks ms : List Int} (h1 : ks.Pairwise (· < ·)) (h2 : ms.Pairwise (· < ·)) (h : ∀ k, k ∈ ks ↔ k ∈ ms) : ks = ms := by
  have n1 : ks.Nodup := h1.imp fun h => Int.ne_of_lt h
  have n2 : ms.Nodup := h2.imp fun h => Int.ne_of_lt h
  exact rise_one ((List.perm_ext_iff_of_nodup n1 n2).mpr fun k => h k) (h1.imp fun h => Int.le_of_lt h) (h2.imp fun h => Int.le_of_lt h)
theorem filter_more {S : Int → Bool} {k : Int} : ∀ {ms : List Int}, ms.Nodup → k ∈ ms → S k = false → (ms.filter fun j => S j || decide (j = k)).length = (ms.filter S).length + 1
  | m :: ms, hn, hk, hS => by
    have h2 := List.nodup_cons.mp hn
    by_cases z : m = k
    · subst z
      have e : (ms.filter fun j => S j || decide (j = m)) = ms.filter S := List.filter_congr fun j hj => by
        have : j ≠ m := fun e => h2.1 (e ▸ hj)
        rw [decide_eq_false this, Bool.or_false]
      rw [List.filter_cons, List.filter_cons, if_pos (by simp), hS, if_neg (by decide), e, List.length_cons]
    · have ih := filter_more (ms := ms) h2.2 (by
        rcases List.mem_cons.mp hk with e | e
        · exact absurd e.symm z
        · exact e) hS
      rw [List.filter_cons, List.filter_cons, decide_eq_false z, Bool.or_false]
      cases S m with
      | true =>
        rw [if_pos rfl, if_pos rfl, List.length_cons, List.length_cons, ih]
      | false =>
        rw [if_neg (by decide), if_neg (by decide), ih]
section
variable {w : World} {K : PySem.W.Frag} {σ : L2.St} {G : Hp} {te : TE}
theorem ed_sortSet {wi : TI} {g : TG} {tt : TT} {vs : List Nat} {its : List PyData} (f : PyData → Bool) (F : PyData → Int) (ms : List Int) (h : EvI wi σ G its) (hz : its.length ≤ 4000) (hms : ms.length ≤ 63) (ht : Turn g tt te vs f (fun d => .int (F d)) σ G its)
    (hp : ms.Pairwise (· < ·)) (hm : ∀ k, k ∈ ms ↔ Kept f F its k) : EvD (tCB (rSortedSet w) (tCons (tSi w wi g tt te vs) tNil)) σ G (.list (ms.map .int)) := fun H x Q q =>
  h H x _ fun J G1 H1 p W A hA => by
    refine ⟨fun i Hi => ∃ Gc S m, Part G1 H1 Gc Hi ∧ Gc A = none ∧ Hi A = some (SetO w A S m) ∧ m ≤ (ms.filter S).length ∧ ∀ k, S k = true ↔ Kept f F (its.take i) k, its.length, ⟨G1, _, 0, (Part.refl p.sub).on (Ex.new hA), fresh_back p.sub hA, upd_same, Nat.zero_le _, fun k => ?_⟩, ?_⟩
    · constructor
      · intro z
        cases z
      · rintro ⟨d, hd, _⟩
        rw [List.take_zero] at hd
        cases hd
    · rintro i Hi hi ⟨Gc, S, m, P, off, there, hmi, mem⟩
      by_cases lt : i < its.length
      · refine .inr ⟨W.goes i Hi lt (P.ext.trans P.sub), lt, fun y Hy hy => ?_⟩
        obtain ⟨G2, d, p2, e1, r⟩ := W.yields i Hi y Hy lt (P.ext.trans P.sub) hy Gc P.ext P.sub
        refine ht i d y G2 Hy _ ((p.ext.trans P.ext).trans p2.ext) p2.sub e1 r fun σ2 hw hT hE => ⟨hw, ?_⟩
        have off2 : G2 A = none := by
          cases z : G2 A with
          | none => rfl
          | some o =>
            have k := p2.new A o z off
            rw [there] at k
            cases k
        refine hT Hy p2.sub _ fun H4 e4 => ?_
        have th4 : H4 A = some (SetO w A S m) := e4 _ _ (p2.old _ _ there)
        cases hf : f d with
        | false =>
          refine ⟨G2, S, m, (P.trans p2).on e4, off2, th4, hmi, fun k => ?_⟩
          rw [mem, kept_snoc e1, hf]
          simp
        | true =>
          refine hE hf H4 (p2.sub.trans e4) _ fun y2 G5 H5 p5 r5 => ?_
          cases r5
          have off5 : G5 A = none := by
            cases z : G5 A with
            | none => rfl
            | some o =>
              have k := p5.new A o z off2
              rw [th4] at k
              cases k
          have pz := ((P.trans p2).on e4).trans p5
          refine ⟨F d, S, m, rfl, p5.old _ _ th4, by
            show m + 1 < 4096
            have := List.length_filter_le S ms
            omega, G5, _, _, ⟨pz.ext, fun b u k => ?_, fun b u k => ?_, pz.new⟩, off5, upd_same, ?_, fun k => ?_⟩
          · rw [upd_ne (ne_of_none k off5)]
            exact pz.sub b u k
          · rw [upd_ne (ne_of_none k hA)]
            exact pz.old b u k
          · have kin : F d ∈ ms := (hm _).mpr ⟨d, List.mem_of_getElem? e1, hf, rfl⟩
            have nd : ms.Nodup := hp.imp fun h => Int.ne_of_lt h
            cases hS : S (F d) with
            | true =>
              rw [if_pos rfl]
              refine Nat.le_trans hmi (Nat.le_of_eq ?_)
              congr 1
              refine List.filter_congr fun j _ => ?_
              by_cases z : j = F d
              · rw [z, hS]
                rfl
              · rw [decide_eq_false z, Bool.or_false]
            | false =>
              rw [if_neg (by decide), filter_more nd kin hS]
              omega
          · rw [kept_snoc e1, hf, Bool.or_eq_true, decide_eq_true_eq, mem]
            exact or_congr_right ⟨fun z => ⟨rfl, z.symm⟩, fun z => z.2.symm⟩
      · have e : i = its.length := by omega
        subst e
        refine .inl ⟨W.stops Hi (P.ext.trans P.sub), A, S, m, rfl, there, by have := List.length_filter_le S ms; omega, fun ns l h1 h2 _ hl => ?_⟩
        have en : ns = ms := strict_one h1 hp fun k => by rw [h2, mem, List.take_length, hm]
        subst en
        exact q _ _ _ ((p.trans P).add hl) (.lst upd_same (RpA.ofInts ns))
end
end Lm

set_option maxHeartbeats 2000000
/-! t.count(k), t a tuple of numbers -/
namespace LmCnt
open PySem PySem.Spec PyProof.Rows L2 PySem.W
def rCntT (K : PySem.W.Frag) : V → List V → Hp → VK → Prop := fun x xs H Q => ∃ (p : Addr) (ns : List Int) (k : Int), x = .ref p ∧ xs = [.int k] ∧ SqT K H p (ns.map V.int) ∧ Q (.int (ns.count k : Nat)) H
section
variable {X : Cx}
theorem mt_tcount : MtR X "tuple.count" (rCntT X.K) := by
  rintro pins s σ H _ _ v us Q I rx rxs ⟨p, ns, k, rfl, rfl, hp, q⟩
  cases rx
  obtain ⟨u, rfl, tk, rfl⟩ := rxs.one
  obtain ⟨its, rv, ⟨⟨c, dd, data, sl⟩, ho, hc, n, hd⟩, _⟩ := I.tuple hp
  cases (show c = _ from hc)
  cases (show data = _ from hd)
  have are := ints_of_vals rv
  have cnt : its.toArray.toList.countP (eqk k) = ns.count k := eqk_count are
  refine call_meets PySem.F.slot_tuple_count ⟨_, ho, rfl⟩ PySem.F.entry_tuple_count (PySem.F.args_tuple_count_2 _ _) (SeqAt.tuple_countAt p its.toArray n dd sl (.int k tk) (eqk k)) ⟨ho, fun y hy => ?_, ?_⟩
  · exact (eqk_gives are y (by simpa using hy)).at _ _
  · rw [cnt]
    exact ⟨.int (ns.count k : Nat), H, I.tok _, ⟨s.toks, rfl⟩, q⟩
theorem readsAll_ints {h : Heap} : ∀ {ns : List Int} {us : List Value}, Vals (ns.map V.int) us → ReadsAll h us (ns.map Datum.toD) []
  | [], _, .nil => .nil
  | n :: ns, _, .cons a b => by
    obtain ⟨t, rfl⟩ := a
    exact .cons (as := []) (.int n t) (readsAll_ints b)
theorem maxOf_two (ns : List Int) : ∀ n : Int, maxOf n ns ∈ n :: ns ∧ ∀ y ∈ n :: ns, y ≤ maxOf n ns := by
  unfold maxOf
  induction ns with
  | nil => intro n; exact ⟨List.mem_cons_self, fun y hy => by simp at hy; rw [hy]; exact Int.le_refl _⟩
  | cons m r ih =>
    intro n
    rw [List.foldl_cons]
    have lt : DatumOrd.lt n m = decide (n < m) := rfl
    rw [lt]
    by_cases z : n < m
    · rw [if_pos (decide_eq_true z)]
      obtain ⟨h1, h2⟩ := ih m
      refine ⟨List.mem_cons_of_mem _ h1, fun y hy => ?_⟩
      rcases List.mem_cons.mp hy with rfl | hy
      · exact Int.le_trans (Int.le_of_lt z) (h2 m List.mem_cons_self)
      · exact h2 y hy
    · rw [if_neg (by simpa using z)]
      obtain ⟨h1, h2⟩ := ih n
      refine ⟨?_, fun y hy => ?_⟩
      · rcases List.mem_cons.mp h1 with k | k
        · rw [k]
          exact List.mem_cons_self
        · exact List.mem_cons_of_mem _ (List.mem_cons_of_mem _ k)
      · rcases List.mem_cons.mp hy with rfl | hy
        · exact h2 y List.mem_cons_self
        · rcases List.mem_cons.mp hy with rfl | hy
          · exact Int.le_trans (by omega) (h2 n List.mem_cons_self)
          · exact h2 y (List.mem_cons_of_mem _ hy)
/-- max of a tuple of numbers -/
def rMaxT (K : PySem.W.Frag) : List V → Hp → VK → Prop := fun vs H Q => ∃ (a : Addr) (ns : List Int), vs = [V.ref a] ∧ SqT K H a (ns.map V.int) ∧ 0 < ns.length ∧ ∀ m, m ∈ ns → (∀ y, y ∈ ns → y ≤ m) → Q (.int m) H
theorem cr_maxT (hc : X.calm = true) (hu : X.A.units + 65 < cLine) : CallR X (.builtin "max") (rMaxT X.K) := by
  rintro pins s σ H _ us Q I r ⟨a, ns, rfl, hs, hne, q⟩
  obtain ⟨its, rv, hl, _⟩ := I.tuple hs
  rw [Vals.ref1 r]
  match ns, hne with
  | n :: ms, _ =>
    obtain ⟨m1, m2⟩ := maxOf_two ms n
    refine max_tuple_datum (x := n) (xs := ms) (I.ok.hd hc) hl ⟨[], readsAll_ints rv⟩ (by show X.A.units + 1 + 0 < cLine; omega) fun i v h' tk _ hv hk => ?_
    obtain ⟨as, rr⟩ := hv
    have rr2 : Reads h' v (.int (maxOf n ms)) as := rr
    cases rr2
    exact ⟨.int _, H, I.kept hk, ⟨_, rfl⟩, q _ m1 m2⟩
end
end LmCnt

set_option maxHeartbeats 2000000
/-! What the laws share: errors by number, a draw of numbers, a deed tried. -/
namespace Lm
open PySem PySem.Spec PyProof.Rows L2 Evl

/-! ### promises that look into the heap too -/
def spH (r : Hp → List PyData → Out → Prop) : Sp := fun vs H Q E => ∃ G ds o, Ex G H ∧ RpA G vs ds ∧ r G ds o ∧ Want o G H Q E
section
variable {P : Program} {w : World} {K : PySem.W.Frag} {mg : Str → Option Value} {base : Heap} {x : Str} {ps N : List Str} {st : Stmt} {k : Nat} {f : Addr}
theorem has_ofH {r : Hp → List PyData → Out → Prop} (a : At K mg x ps st f) (S : FnScope N ps (defScope st)) (hl : ∀ G ds o, r G ds o → ds.length = ps.length)
    (hbody : ∀ (cdv : Value) (A : Around) (outer : List Env) (s : Shared) (H : Hp) (vs : List V) (Q : VK) (E : XK), Room k (A.deeper (envOfC x (defScope st) s.heap.objs.size f cdv)) →
      (∃ t, PSs (cxOf (L2.CX P w) P w K mg base N x (defScope st) f cdv A outer s H E) (defBody st) t ∧
        ∀ G ds o, Ex G H → RpA G vs ds → r G ds o → Want o G H Q E → t { nx := fun _ H' => Q .non H', rt := Q } (start N vs) H)) : Has P w K mg base x ps (k + 1) (spH r) := by
  obtain ⟨fd, F, b⟩ := a.ex
  refine ⟨f, fd, a.g, F.kp, b, F.okX S (fun vs H Q E h => ?_) (fun cdv A outer s H vs Q E hr h => ?_)⟩
  · obtain ⟨G, ds, o, _, rp, h, _⟩ := h
    rw [rp.len]
    exact hl G ds o h
  · obtain ⟨t, h1, h2⟩ := hbody cdv A outer s H vs Q E hr
    obtain ⟨G, ds, o, e, rp, h, q⟩ := h
    exact ⟨t, h1, h2 G ds o e rp h q⟩
end
section
variable {K : PySem.W.Frag} {σ : L2.St} {G : Hp} {tr : TA} {ds : List PyData} {o : Out} {E : XK} {d : PyData}
theorem ex_callH {r : Hp → List PyData → Out → Prop} (h : EdA tr σ G ds) (hr : ∀ G', Ex G G' → r G' ds o) : EvX (tCall (spH r) [] E tr) E σ G o := fun H x Q q =>
  h H x _ fun vs G1 H1 p rs => ⟨G1, ds, o, p.sub, by rw [List.append_nil]; exact rs, hr G1 p.ext, q.go p⟩
theorem ed_callH {r : Hp → List PyData → Out → Prop} (h : EdA tr σ G ds) (hr : ∀ G', Ex G G' → r G' ds (.val d)) : EvD (tCall (spH r) [] E tr) σ G d := EvX.toD (E := E) (ex_callH h hr)
end

/-! ### the errors, by number: NoPile, NoRow, NoMove, TooGreat, Below, NoText -/
structure ErrTxt (K : PySem.W.Frag) (mg : Str → Option Value) where
  M : Addr
  c : Nat → Addr
  gM : mg "MarkError" = some (.ref M)
  g0 : mg "NoPile" = some (.ref (c 0))
  g1 : mg "NoRow" = some (.ref (c 1))
  g2 : mg "NoMove" = some (.ref (c 2))
  g3 : mg "TooGreat" = some (.ref (c 3))
  g4 : mg "Below" = some (.ref (c 4))
  g5 : mg "NoText" = some (.ref (c 5))
  k : ∀ i, i < 6 → PySem.W.keepIn K (.ref (c i)) = true
  x : ∀ i, i < 6 → PySem.W.excIn K (c i) [.type "ValueError", .type "Exception", .type "BaseException", .type "object"] "ValueError.__new__" = true
  e : ∀ i, i < 6 → PySem.W.subIn K (.ref (c i)) (.type "BaseException") = some true
  t : ∀ i, i < 6 → PySem.W.typeIn K (.ref (c i)) = some (.type "type")
  q : ∀ i, i < 6 → ExcC K (c i)
  kit : ∀ i j, i < 6 → j < 6 → PySem.W.kitOne K (.ref (c i)) (.ref (c j)) = some (decide (i = j))
  kitV : ∀ i, i < 6 → PySem.W.kitOne K (.ref (c i)) (.type "ValueError") = some true
  exm : ∀ i, i < 6 → PySem.W.exmOne K (.ref (c i)) (.ref M) = some true
  exo : ∀ i j, i < 6 → j < 6 → PySem.W.exmOne K (.ref (c i)) (.ref (c j)) = some (decide (i = j))
def errName : Nat → Str
  | 0 => "NoPile"
  | 1 => "NoRow"
  | 2 => "NoMove"
  | 3 => "TooGreat"
  | 4 => "Below"
  | _ => "NoText"
section
variable {K : PySem.W.Frag} {mg : Str → Option Value} {σ : L2.St} {G : Hp} {ta tb : TE}
theorem ed_isErr {a D C : Addr} {b : Bool} (h : EvD ta σ G (opq a)) (k : Ev tb σ G (.ref C)) (hG : G a = some (LmExc.ErrO D a)) (q : ExcC K D) (e : PySem.W.kitOne K (.ref D) (.ref C) = some b) :
    EvD (tCB (LmExc.rIsErr K) (tCons ta (tCons tb tNil))) σ G (.bool b) := fun H x Q c =>
  h H x _ fun v G1 H1 p r => k H1 (x.trans p.old) _ fun H2 e2 => by
    cases r
    exact ⟨a, D, .ref C, .ref C, b, rfl, e2 _ _ (p.sub _ _ (p.ext _ _ hG)), q, fun u z => z, e, c _ G1 H2 (p.on e2) (.bl _)⟩
theorem ed_isErrT {a D : Addr} {S : String} {b : Bool} (h : EvD ta σ G (opq a)) (k : Ev tb σ G (.ty S)) (hG : G a = some (LmExc.ErrO D a)) (q : ExcC K D) (e : PySem.W.kitOne K (.ref D) (.type S) = some b) :
    EvD (tCB (LmExc.rIsErr K) (tCons ta (tCons tb tNil))) σ G (.bool b) := fun H x Q c =>
  h H x _ fun v G1 H1 p r => k H1 (x.trans p.old) _ fun H2 e2 => by
    cases r
    exact ⟨a, D, .ty S, .type S, b, rfl, e2 _ _ (p.sub _ _ (p.ext _ _ hG)), q, fun u z => z, e, c _ G1 H2 (p.on e2) (.bl _)⟩
def rWord (R : ErrTxt K mg) : Hp → List PyData → Out → Prop := fun G ds o => ∃ a i, i < 6 ∧ ds = [opq a] ∧ G a = some (LmExc.ErrO (R.c i) a) ∧ o = .val (.str (errName i))
/-- what a deed tells, or its refusal's name -/
def Tried (R : ErrTxt K mg) (o : Out) (d : PyData) : Prop := match o with
  | .val x => d = x
  | .err C => ∃ i, i < 6 ∧ C = R.c i ∧ d = .str (errName i)
/-- Dd: the deeds that may be handed in, with what they promise -/
def rTried (R : ErrTxt K mg) (Dd : Addr → (List PyData → Out → Prop) → Prop) : List PyData → Out → Prop := fun ds o =>
  ∃ f rel l o' d, ds = [opq f, .list l] ∧ (l.length = 1 ∨ l.length = 2) ∧ Dd f rel ∧ rel l o' ∧ Tried R o' d ∧ o = .val d
end
/-! ### the draw -/
def mixI (c k : Int) : Int := ((c * 48271 + 7919 * k * k + 31 * k + 5) % 2147483647) * ((c * 48271 + 7919 * k * k + 31 * k + 5) % 2147483647 + 2 * k + 1) % 2147483629
theorem mixI_nn (c k : Int) : 0 ≤ mixI c k := Int.emod_nonneg _ (by decide)
theorem mixI_lt (c k : Int) : mixI c k < 2147483629 := Int.emod_lt_of_pos _ (by decide)
def rMix : List PyData → Out → Prop := fun ds o => ∃ c k, ds = [.int c, .int k] ∧ 0 ≤ k ∧ k ≤ 1000000 ∧ o = .val (.int (mixI c k))
def placeI (n : Int) : Int := match (n % 8).toNat with
  | 0 => n / 8 % 12
  | 1 => n / 8 % 6
  | 2 => n / 8 % 30
  | 3 => n / 8 % 100
  | 4 => 0
  | 5 => 1
  | 6 => n / 8 % 3
  | _ => 60
theorem placeI_in (n : Int) : 0 ≤ placeI n ∧ placeI n ≤ 99 := by
  unfold placeI
  split <;> omega
def rLPlace : List PyData → Out → Prop := fun ds o => ∃ n, ds = [.int n] ∧ o = .val (.int (placeI n))
/-- the numbers of a script, from one on, each with its place -/
def drawI (ns : List Int) (k0 : Int) : List Int := (List.range ns.length).map fun k => placeI (mixI (ns.getD k 0) (k0 + (k : Nat)))
def cutI (ns : List Int) (f m : Nat) : List Int := (ns.drop f).take m
def pileS (ns : List Int) (f m : Nat) : List Int := srt (drawI (cutI ns f m) 11)
def rLPile (K : PySem.W.Frag) : Hp → List PyData → Out → Prop := fun G ds o => ∃ (a : Addr) (ns : List Int) (f m : Nat), ds = [opq a, .int (f : Nat), .int (m : Nat)] ∧ SqL K G a (ns.map V.int) ∧ ns.length ≤ 100 ∧ f ≤ 1000 ∧ m ≤ 1000 ∧
  o = .val (.tuple ((pileS ns f m).map .int))
def rLWorth : List PyData → Out → Prop := fun ds o => ∃ ns : List Int, ds = [.tuple (ns.map .int)] ∧ ns.length ≤ 1000 ∧ (∀ n ∈ ns, 0 ≤ n ∧ n ≤ 100) ∧ o = .val (.int (worthI ns))
theorem cut_nat {α : Type} (xs : List α) (f m : Nat) : (xs.drop (min f xs.length)).take (min (f + m) xs.length - min f xs.length) = (xs.drop f).take m := by
  by_cases h : f ≤ xs.length
  · rw [Nat.min_eq_left h]
    by_cases h2 : f + m ≤ xs.length
    · rw [Nat.min_eq_left h2, Nat.add_sub_cancel_left]
    · rw [Nat.min_eq_right (by omega), List.take_of_length_le (by rw [List.length_drop]; omega), List.take_of_length_le (by rw [List.length_drop]; omega)]
  · rw [Nat.min_eq_right (a := f) (by omega), Nat.min_eq_right (a := f + m) (by omega), Nat.sub_self, List.take_zero, List.drop_eq_nil_of_le (i := f) (by omega), List.take_nil]
theorem cutV_nat (ns : List Int) (f m : Nat) : cutV (ns.map V.int) (some (f : Int)) (some ((f : Int) + (m : Int))) = (cutI ns f m).map V.int := by
  unfold cutV cutI
  rw [show ((f : Int) + (m : Int)) = ((f + m : Nat) : Int) by omega, HT.sIx_nat, HT.sIx_nat, List.length_map]
  have e := cut_nat (ns.map V.int) f m
  rw [List.length_map] at e
  rw [e, List.map_take, List.map_drop]
theorem cutV_pre (ns : List Int) (m : Nat) : cutV (ns.map V.int) none (some (m : Int)) = (ns.take m).map V.int := by
  unfold cutV
  rw [HT.sIx_none, HT.sIx_nat, List.length_map, List.drop_zero, Nat.sub_zero]
  by_cases h : m ≤ ns.length
  · rw [Nat.min_eq_left h, List.map_take]
  · rw [Nat.min_eq_right (by omega), List.take_of_length_le (by rw [List.length_map]; omega), List.take_of_length_le (by omega)]
section
variable {K : PySem.W.Frag} {σ : L2.St} {G : Hp} {te : TE} {tl th : TO} {wi : TI} {ns : List Int}
theorem ofEvL (h : EvL te σ G (ns.map V.int)) : EvD te σ G (.list (ns.map .int)) := fun H x Q q =>
  h H x _ fun p H2 n x2 e => q (.ref p) _ H2 (part_new x n x2 e) (.lst upd_same (RpA.ofInts ns))
/-- a slice of the script -/
theorem ed_slS {a : Addr} {lo hi : Option Int} {ms : List Int} (h : Ev te σ G (.ref a)) (h1 : EvO tl σ G lo) (h2 : EvO th σ G hi) (hs : SqL K G a (ns.map V.int)) (e : cutV (ns.map V.int) lo hi = ms.map V.int) :
    EvD (tSl (rSlL K) te tl th) σ G (.list (ms.map .int)) := by
  have k := el_sl (K := K) h h1 h2 hs
  rw [e] at k
  exact ofEvL k
theorem enD_ints (ns : List Int) : enD (ns.map .int) = (List.range ns.length).map fun k => .tuple [.int (k : Nat), .int (ns.getD k 0)] := by
  unfold enD
  rw [List.length_map]
  refine List.map_congr_left fun k hk => ?_
  have hl : k < ns.length := List.mem_range.mp hk
  rw [List.getD_eq_getElem?_getD, List.getElem?_map, List.getD_eq_getElem?_getD, List.getElem?_eq_getElem hl]
  rfl
/-- [.. for k, c in enumerate(numbers)] -/
theorem ed_lcEn {j l : Nat} (F : Int → Int → PyData) (h : EvI wi σ G (enD (ns.map .int))) (hz : ns.length ≤ 100000) (hw : ∀ x y, wipe (((wipe σ [j, l]).set j (some x)).set l (some y)) [j, l] = wipe σ [j, l])
    (he : ∀ (k : Nat) (c : Int) (G' : Hp), Ex G G' → k < ns.length → ns[k]? = some c → EvD te (((wipe σ [j, l]).set j (some (.int (k : Nat)))).set l (some (.int c))) G' (F (k : Nat) c)) :
    EvD (tLc wi (gTup K 2 (gCons (gName j) (gCons (gName l) gNil))) tYes te [j, l]) σ G (.list ((List.range ns.length).map fun k => F (k : Nat) (ns.getD k 0))) := by
  refine (ed_lc (fun _ => true) (fun d => match d with | .tuple [.int a, .int b] => F a b | _ => .none) h (by rw [enD_len, List.length_map]; exact hz) (turn_two ?_ hw (fun _ _ _ _ _ _ _ _ _ _ => et_yes) fun i a b x y G' e' hi ra rb _ => ?_)).is ?_
  · intro d hd
    unfold enD at hd
    obtain ⟨z, _, e3⟩ := List.mem_map.mp hd
    exact ⟨_, _, e3.symm⟩
  · rw [enD_ints, List.getElem?_map] at hi
    have hl : i < ns.length := by
      cases q : (List.range ns.length)[i]? with
      | none =>
        rw [q] at hi
        cases hi
      | some k =>
        have := (List.getElem?_eq_some_iff.mp q).1
        rw [List.length_range] at this
        exact this
    rw [List.getElem?_range hl] at hi
    have e1 : PyData.tuple [.int (i : Nat), .int (ns.getD i 0)] = .tuple [a, b] := Option.some.inj hi
    cases e1
    cases ra
    cases rb
    refine he i (ns.getD i 0) G' e' hl ?_
    rw [List.getD_eq_getElem?_getD, List.getElem?_eq_getElem hl]
    rfl
  · rw [lcD_all, enD_ints, List.map_map]
    rfl
end
/-- the refusals and whether it is one of them -/
def wordsD (i : Nat) : List PyData := [.tuple [.str "NoPile", .bool (decide (i = 0))], .tuple [.str "NoRow", .bool (decide (i = 1))], .tuple [.str "NoMove", .bool (decide (i = 2))], .tuple [.str "TooGreat", .bool (decide (i = 3))], .tuple [.str "Below", .bool (decide (i = 4))],
  .tuple [.str "NoText", .bool (decide (i = 5))]]
def wordsF : PyData → Bool
  | .tuple [_, .bool b] => b
  | _ => false
def wordsW : PyData → PyData
  | .tuple [a, _] => a
  | _ => .none
theorem words_one {i : Nat} (h : i < 6) : lcD wordsF wordsW (wordsD i) = [.str (errName i)] := by
  match i, h with
  | 0, _ => rfl
  | 1, _ => rfl
  | 2, _ => rfl
  | 3, _ => rfl
  | 4, _ => rfl
  | 5, _ => rfl
theorem words_pair {i : Nat} {d : PyData} (h : d ∈ wordsD i) : ∃ s b, d = .tuple [.str s, .bool b] := by
  unfold wordsD at h
  simp only [List.mem_cons, List.not_mem_nil, or_false] at h
  rcases h with rfl | rfl | rfl | rfl | rfl | rfl
  all_goals exact ⟨_, _, rfl⟩
theorem shaped_int (n : Int) : SeqAt.shaped (.int n) = true := rfl
theorem shaped_bool (n : Bool) : SeqAt.shaped (.bool n) = true := rfl
section
variable {P : Program} {w : World} {K : PySem.W.Frag} {mg : Str → Option Value} {base : Heap} {x : Str} {ps : List Str} {k j : Nat} {sp : Sp} {f : Addr}
theorem Has.callee (h : Has P w K mg base x ps k sp) (g : mg x = some (.ref f)) (hk : k ≤ j) : LmExc.Callee P w K mg base j f sp := by
  obtain ⟨f', fd, h1, h2, h3, h4⟩ := h.ex
  rw [g] at h1
  cases h1
  exact ⟨fd, ps, h4.mono hk, h2, h3⟩
end
section
variable {K : PySem.W.Frag} {σ : L2.St} {G G0 H H0 : Hp} {ta : TE} {d : PyData}
theorem ed_isN1 (h : EvD ta σ G d) : EvD (tOp rIsN ta (tC .non)) σ G (.bool (isN d)) := fun H x Q q =>
  h H x _ fun v G1 H1 p r => by
    have e : decide (v = V.non) = isN d := by cases r <;> rfl
    refine ⟨rfl, ?_⟩
    rw [e]
    exact q _ G1 H1 p (.bl _)
theorem ed_notN1 (h : EvD ta σ G d) : EvD (tOp rNotN ta (tC .non)) σ G (.bool (!isN d)) := fun H x Q q =>
  h H x _ fun v G1 H1 p r => by
    have e : decide (v = V.non) = isN d := by cases r <;> rfl
    refine ⟨rfl, ?_⟩
    rw [e]
    exact q _ G1 H1 p (.bl _)
/-- the reading of a try that keeps the error: a call of a deed, its answer to slot i, an error to slot j by way of slot e -/
theorem d_try {R : ErrTxt K mg} {S : Addr → Sp → Prop} {i j e n : Nat} {tr : TA} {D : Ends} {rel : List PyData → Out → Prop} {f : Addr} {ds : List PyData} {o : Out} (P : Part G0 H0 G H) (h : EdA tr σ G ds) (hf : σ[n]? = some (some (.ref f))) (hS : S f (spO rel)) (hr : rel ds o)
    (he : ∀ C, o = .err C → ∃ k, k < 6 ∧ C = R.c k) (hs : ∀ v : V, (σ.set e (some v))[e]? = some (some v)) (k1 : ∀ d, o = .val d → ∀ v G' H', Part G0 H0 G' H' → Ex G G' → Rp G' v d → D.nx (σ.set i (some v)) H')
    (k2 : ∀ k, k < 6 → o = .err (R.c k) → ∀ a G' H', Part G0 H0 G' H' → Ex G G' → G' a = some (LmExc.ErrO (R.c k) a) → D.nx (((σ.set e (some (.ref a))).set j (some (.ref a))).set e none) H') :
    tAsg (LmExc.tCallHS n S (WE (LmExc.wHeld K (.ref R.M) e (fun _ => tAsg (tVar e) (gName j)) D)) tr) (gName i) D σ H :=
  ⟨f, spO rel, hf, hS, h H P.sub _ fun vs G1 H1 p rs => ⟨G1, ds, o, p.sub, rs, hr, by
    cases o with
    | val d => exact fun v G' H' p2 r => k1 d rfl v G' H' (P.trans (p.trans p2)) (p.ext.trans p2.ext) r
    | err C =>
      obtain ⟨k, hk, rfl⟩ := he C rfl
      refine fun H' x => ⟨_, rfl, rfl, R.exm k hk, fun a ha => ⟨.ref a, hs _, ?_⟩⟩
      have pz := ((P.trans p).on x).add (o := LmExc.ErrO (R.c k) a) ha
      exact k2 k hk rfl a _ _ pz (p.ext.trans (Ex.new (fresh_back ((P.trans p).on x).sub ha))) upd_same⟩⟩
end
/-! ### rows by their neighbours -/
def looseI (ns : List Int) : Bool := (nx ns).all fun p => decide (1 < p.2 - p.1)
theorem nx_len (ns : List Int) : (nx ns).length = ns.length - 1 := by
  unfold nx
  rw [List.length_zip, List.length_drop]
  omega
theorem nx_at {ns : List Int} {k : Nat} (h : k + 1 < ns.length) : (nx ns)[k]? = some (ns.getD k 0, ns.getD (k + 1) 0) := by
  unfold nx
  rw [List.getElem?_zip_eq_some, List.getElem?_drop, Nat.add_comm 1 k, List.getD_eq_getElem?_getD, List.getD_eq_getElem?_getD, List.getElem?_eq_getElem (show k < ns.length by omega), List.getElem?_eq_getElem h]
  exact ⟨rfl, rfl⟩
theorem nx_all {ns : List Int} {f : Int × Int → Bool} : (nx ns).all f = true ↔ ∀ k, k + 1 < ns.length → f (ns.getD k 0, ns.getD (k + 1) 0) = true := by
  rw [List.all_eq_true]
  refine ⟨fun h k hk => h _ (List.mem_of_getElem? (nx_at hk)), fun h p hp => ?_⟩
  obtain ⟨k, e⟩ := List.mem_iff_getElem?.mp hp
  have hk := (List.getElem?_eq_some_iff.mp e).1
  rw [nx_len] at hk
  rw [nx_at (by omega)] at e
  cases e
  exact h k (by omega)
theorem isRow_ints (ns : List Int) : isRowD (.tuple (ns.map .int)) = (pileI ns && looseI ns) := by
  unfold isRowD
  rw [isPile_ints]
  show (pileI ns && ((nx ((ns.map PyData.int).map toI)).all fun p => decide (1 < p.2 - p.1))) = _
  rw [toI_map]
  rfl
theorem near_eq (ns : List Int) (k : Nat) : (decide (ns.getD ((1 : Int) + (k : Nat)).toNat 0 - ns.getD (((1 : Int) + (k : Nat)).toNat - 1) 0 < 2)) = decide (ns.getD (k + 1) 0 - ns.getD k 0 < 2) := by
  rw [show ((1 : Int) + (k : Nat)).toNat = k + 1 by omega, Nat.add_sub_cancel]
/-- what the law's own look at the neighbours finds -/
def nearF (ns : List Int) : PyData → Bool
  | .int a => decide (ns.getD a.toNat 0 - ns.getD (a.toNat - 1) 0 < 2)
  | _ => false
theorem near_none (ns : List Int) : PyData.eqv (.int ((lcD (nearF ns) (fun d => d) (rgD 1 (ns.length - 1))).length : Nat)) (.int 0) = looseI ns := by
  have e1 : PyData.eqv (.int ((lcD (nearF ns) (fun d => d) (rgD 1 (ns.length - 1))).length : Nat)) (.int 0) = ((((lcD (nearF ns) (fun d => d) (rgD 1 (ns.length - 1))).length : Nat) : Int) == 0) := by simp [PyData.eqv]
  rw [e1, Bool.eq_iff_iff]
  unfold looseI lcD
  rw [nx_all, beq_iff_eq, List.length_map]
  constructor
  · intro h k hk
    have h0 : (rgD 1 (ns.length - 1)).filter (nearF ns) = [] := List.length_eq_zero_iff.mp (by omega)
    rw [List.filter_eq_nil_iff] at h0
    have h2 := h0 _ (List.mem_of_getElem? (rgD_at (lo := 1) (n := ns.length - 1) (i := k) (by omega)))
    have e2 : nearF ns (.int (1 + (k : Nat))) = decide (ns.getD (k + 1) 0 - ns.getD k 0 < 2) := near_eq ns k
    rw [e2] at h2
    have h3 : ¬ (ns.getD (k + 1) 0 - ns.getD k 0 < 2) := by simpa using h2
    exact decide_eq_true (by show 1 < ns.getD (k + 1) 0 - ns.getD k 0; omega)
  · intro h
    have h0 : (rgD 1 (ns.length - 1)).filter (nearF ns) = [] := by
      rw [List.filter_eq_nil_iff]
      intro d hd
      unfold rgD at hd
      obtain ⟨k, hk, rfl⟩ := List.mem_map.mp hd
      have hk2 := List.mem_range.mp hk
      have h2 := of_decide_eq_true (h k (by omega))
      have h3 : (1 : Int) < ns.getD (k + 1) 0 - ns.getD k 0 := h2
      intro z
      have z2 := (near_eq ns k).symm.trans z
      have := of_decide_eq_true z2
      omega
    rw [h0]
    rfl
def rLLoose : List PyData → Out → Prop := fun ds o => ∃ ns : List Int, ds = [.tuple (ns.map .int)] ∧ ns.length ≤ 1000 ∧ o = .val (.bool (looseI ns))
/-- the answers are as they are due -/
def rLooked : List PyData → Out → Prop := fun ds o => ∃ d g l, ds = [d, .bool g, .bool l] ∧ plainD d = true ∧ isPileD d = g ∧ isRowD d = l ∧ o = .val (.bool true)
/-- a thing that is no pile -/
def rLBad : List PyData → Out → Prop := fun ds o => ∃ (ns : List Int) (n : Int) (d : PyData), ds = [.tuple (ns.map .int), .int n] ∧ ns.length ≤ 240 ∧ o = .val d ∧ plainD d = true ∧ isPileD d = false
section
variable {σ : L2.St} {G : Hp}
theorem ed_disp01 : EvD (tDisp [(tC (.int 0), tC (.int 1))]) σ G (.dict []) := fun H x Q q p hp => by
  refine ⟨upd_same, [(.inl 0, .int 1)], rfl, by decide, ?_⟩
  have e : upd (upd H p (.dK [])) p (.dK (mergeK [] [(Sum.inl 0, V.int 1)])) = upd H p (.dK (mergeK [] [(Sum.inl 0, V.int 1)])) := upd_upd
  rw [e]
  exact q _ _ _ ((Part.refl x).add hp) (.dic upd_same)
end
theorem kit_bb : kitB "bool" "bool" = some true := by decide +kernel
/-- what need_pile, need_row tell when tried -/
def needD (i : Nat) (b : Bool) : PyData := if b = true then .none else .str (errName i)
theorem need_shaped (i : Nat) (h : i < 2) (b : Bool) : SeqAt.shaped (needD i b) = true := by
  cases b with
  | true => rfl
  | false =>
    match i, h with
    | 0, _ => decide +kernel
    | 1, _ => decide +kernel
theorem need_eqv (i : Nat) (h : i < 2) (b : Bool) : PyData.eqv (needD i b) (needD i b) = true := by
  cases b with
  | true => rfl
  | false =>
    match i, h with
    | 0, _ => rfl
    | 1, _ => rfl
section
variable {K : PySem.W.Frag} {mg : Str → Option Value} {σ : L2.St} {G : Hp} {ta : TE}
theorem need_tried (R : ErrTxt K mg) {i : Nat} (hi : i < 6) (b : Bool) : Tried R (if b = true then .val .none else .err (R.c i)) (needD i b) := by
  cases b with
  | true => rfl
  | false => exact ⟨i, hi, rfl, rfl⟩
theorem ed_due {s : Str} {i : Nat} {b : Bool} (h : EvD ta σ G (.bool b)) (e : s = errName i) : EvD (tOp (rIxL K) (tLst (tCons (tC (.str s)) (tCons (tC .non) tNil))) (tCB (fun xs H Q => (∃ i, xs = [.int i] ∧ Q (.int i) H) ∨ ∃ k, xs = [.bl k] ∧ Q (.int (if k then 1 else 0)) H) (tCons ta tNil))) σ G (needD i b) := by
  refine ed_ixL (ed_lst (ea_cons ed_str (ea_cons ed_non ea_nil)) (by show 2 ≤ 100000; decide)) (ed_intB h) ?_
  subst e
  cases b <;> rfl
end
theorem not_pile_mem {l : List PyData} {x : PyData} (h : x ∈ l) (hx : isPlaceD x = false) : isPileD (.tuple l) = false := by
  rw [isPile_tuple]
  have : l.all isPlaceD = false := by
    rw [List.all_eq_false]
    exact ⟨x, h, by rw [hx]; decide⟩
  rw [this, Bool.false_and, Bool.and_false]
def badD (ns : List Int) : List PyData := [.tuple ((ns.take 1).map .int ++ [.bool true]), .tuple (ns.map .int ++ [.int 100]), .tuple ([.int (-1)] ++ ns.map .int), .tuple (ns.map .int ++ [.str "7"]), .list (ns.map .int), .none, .int 5, .str "1 2"] ++
  [.tuple (ns.map .int ++ [.none]), .tuple ([.int 99] ++ ns.map .int ++ [.int 0]), .tuple (List.replicate 241 [PyData.int 0]).flatten, .tuple [.int 1, .int 0], .tuple [.tuple [.int 0]], .bool true, .dict []]
theorem plain_app (ns : List Int) (x : PyData) (h : (tyD x).isSome = true) : plainD (.tuple (ns.map .int ++ [x])) = true := by
  show ((ns.map PyData.int ++ [x]).all fun d => (tyD d).isSome) = true
  rw [List.all_append, List.all_map]
  have : (ns.all ((fun d => (tyD d).isSome) ∘ PyData.int)) = true := List.all_eq_true.mpr fun _ _ => rfl
  rw [this, List.all_cons, h]
  rfl
theorem bad_all (ns : List Int) : ∀ d ∈ badD ns, plainD d = true ∧ isPileD d = false := by
  intro d h
  unfold badD at h
  simp only [List.cons_append, List.nil_append, List.mem_cons, List.not_mem_nil, or_false] at h
  rcases h with rfl | rfl | rfl | rfl | rfl | rfl | rfl | rfl | rfl | rfl | rfl | rfl | rfl | rfl | rfl
  · exact ⟨plain_app _ _ rfl, not_pile_mem (List.mem_append_right _ List.mem_cons_self) rfl⟩
  · exact ⟨plain_app _ _ rfl, not_pile_mem (List.mem_append_right _ List.mem_cons_self) rfl⟩
  · exact ⟨plain_ints (-1 :: ns), not_pile_mem List.mem_cons_self rfl⟩
  · exact ⟨plain_app _ _ rfl, not_pile_mem (List.mem_append_right _ List.mem_cons_self) rfl⟩
  · exact ⟨rfl, rfl⟩
  · exact ⟨rfl, rfl⟩
  · exact ⟨rfl, rfl⟩
  · exact ⟨rfl, rfl⟩
  · exact ⟨plain_app _ _ rfl, not_pile_mem (List.mem_append_right _ List.mem_cons_self) rfl⟩
  · have e : (PyData.int 99 :: (ns.map PyData.int ++ [PyData.int 0])) = (99 :: (ns ++ [0])).map PyData.int := by
      rw [List.map_cons, List.map_append]
      rfl
    rw [e]
    refine ⟨plain_ints _, ?_⟩
    rw [isPile_ints]
    cases h : pileI (99 :: (ns ++ [0])) with
    | false => rfl
    | true =>
      unfold pileI at h
      rw [Bool.and_eq_true, Bool.and_eq_true] at h
      have r := (List.pairwise_cons.mp (nx_rise h.2.2)).1 0 (List.mem_append_right _ List.mem_cons_self)
      exact absurd r (by decide)
  · exact ⟨by decide +kernel, by decide +kernel⟩
  · exact ⟨rfl, rfl⟩
  · exact ⟨rfl, rfl⟩
  · exact ⟨rfl, rfl⟩
  · exact ⟨rfl, rfl⟩
theorem badD_len (ns : List Int) : (badD ns).length = 15 := rfl
theorem cut_one (ns : List Int) : cutD (ns.map PyData.int) none (some 1) = (ns.take 1).map .int := by
  unfold cutD
  rw [HT.sIx_none, show HT.sIx (ns.map PyData.int).length (ns.map PyData.int).length (some 1) = min 1 (ns.map PyData.int).length from HT.sIx_nat _ _ 1, List.drop_zero, Nat.sub_zero]
  cases ns with
  | nil => rfl
  | cons a r =>
    rw [show min 1 ((a :: r).map PyData.int).length = 1 by rw [List.length_map, List.length_cons]; omega, List.map_take]
section
variable {K : PySem.W.Frag} {σ : L2.St} {G : Hp} {ta tb : TE} {ds : List PyData}
theorem ed_repL {k : Int} (h : EvD ta σ G (.list ds)) (hk : EvD tb σ G (.int k)) (c : -(2 ^ 63) ≤ k ∧ k < 2 ^ 63 ∧ ds.length * k.toNat ≤ 100000) : EvD (tOp rRep ta tb) σ G (.list (List.replicate k.toNat ds).flatten) := fun H x Q q =>
  h H x _ fun v G1 H1 p r => (hk.mono p.ext) H1 p.sub _ fun w G2 H2 p2 r2 => by
    cases r with
    | lst a b =>
      cases r2
      refine ⟨_, k, _, rfl, rfl, p2.sub _ _ (p2.ext _ _ a), c.1, c.2.1, by rw [b.len]; exact sz_of c.2.2, fun l n => ?_⟩
      exact q _ _ _ ((p.trans p2).add n) (.lst upd_same ((rep_rp (b.up p2.ext) k.toNat).up (Ex.new (fresh_back p2.sub n))))
end
theorem rep_ints (k : Nat) (n : Int) : (List.replicate k [PyData.int n]).flatten = (List.replicate k n).map .int := by
  rw [List.map_replicate]
  induction k with
  | zero => rfl
  | succ k ih => rw [List.replicate_succ, List.flatten_cons, ih, List.replicate_succ]; rfl
def goodNs : List (List Int) := [[], [0], [99], List.replicate 240 0, List.replicate 240 99, [0, 99], [0, 1], [0, 2]]
theorem good_all : ∀ ns ∈ goodNs, pileI ns = true ∧ ns.length ≤ 1000 := by
  intro ns h
  unfold goodNs at h
  simp only [List.mem_cons, List.not_mem_nil, or_false] at h
  rcases h with rfl | rfl | rfl | rfl | rfl | rfl | rfl | rfl
  all_goals exact ⟨by decide +kernel, by decide +kernel⟩
def offNs : List (List Int) := [List.replicate 241 0, [100], [-1]]
theorem off_all : ∀ ns ∈ offNs, pileI ns = false := by
  intro ns h
  unfold offNs at h
  simp only [List.mem_cons, List.not_mem_nil, or_false] at h
  rcases h with rfl | rfl | rfl
  all_goals decide +kernel
def tupsD (l : List (List Int)) : List PyData := l.map fun ns => .tuple (ns.map .int)
theorem tups_mem {l : List (List Int)} {d : PyData} (h : d ∈ tupsD l) : ∃ ns, ns ∈ l ∧ d = .tuple (ns.map .int) := by
  unfold tupsD at h
  obtain ⟨ns, h1, h2⟩ := List.mem_map.mp h
  exact ⟨ns, h1, h2.symm⟩
theorem draw_in (ns : List Int) (k0 : Int) : (drawI ns k0).all inI = true := by
  rw [List.all_eq_true]
  intro x hx
  unfold drawI at hx
  obtain ⟨k, _, rfl⟩ := List.mem_map.mp hx
  have := placeI_in (mixI (ns.getD k 0) (k0 + (k : Nat)))
  unfold inI
  rw [decide_eq_true this.1, decide_eq_true this.2]
  rfl
theorem draw_len (ns : List Int) (k0 : Int) : (drawI ns k0).length = ns.length := by
  unfold drawI
  rw [List.length_map, List.length_range]
theorem cutI_len (ns : List Int) (f m : Nat) : (cutI ns f m).length ≤ ns.length ∧ (cutI ns f m).length ≤ m := by
  unfold cutI
  rw [List.length_take, List.length_drop]
  omega
theorem pileS_len (ns : List Int) (f m : Nat) : (pileS ns f m).length ≤ ns.length ∧ (pileS ns f m).length ≤ m := by
  unfold pileS
  rw [srt_len, draw_len]
  exact cutI_len ns f m
theorem pileS_pile {ns : List Int} {f m : Nat} (h : ns.length ≤ 240) : pileI (pileS ns f m) = true := by
  unfold pileS
  rw [pile_srt, draw_in, draw_len, decide_eq_true (by have := cutI_len ns f m; omega)]
  rfl
theorem pile_in {ns : List Int} (h : pileI ns = true) : ∀ n ∈ ns, 0 ≤ n ∧ n ≤ 99 := by
  unfold pileI at h
  rw [Bool.and_eq_true, Bool.and_eq_true] at h
  intro n hn
  have k := List.all_eq_true.mp h.2.1 n hn
  unfold inI at k
  rw [Bool.and_eq_true] at k
  exact ⟨of_decide_eq_true k.1, of_decide_eq_true k.2⟩
theorem eqv_ints : ∀ (ns : List Int), PyData.eqvAll (ns.map .int) (ns.map .int) = true
  | [] => rfl
  | n :: ns => by
    show (PyData.eqv (.int n) (.int n) && PyData.eqvAll (ns.map .int) (ns.map .int)) = true
    rw [eqv_ints ns]
    simp [PyData.eqv]
theorem lay_ints : ∀ (ns : List Int), PyData.canLayAll0 (ns.map .int) = true
  | [] => rfl
  | n :: ns => by
    show (PyData.canLay0 (.int n) && PyData.canLayAll0 (ns.map .int)) = true
    rw [lay_ints ns]
    rfl
theorem depth_ints : ∀ (ns : List Int), PyData.depthAll (ns.map .int) = 0
  | [] => rfl
  | n :: ns => by
    show max (PyData.depth (.int n)) (PyData.depthAll (ns.map .int)) = 0
    rw [depth_ints ns]
    rfl
theorem shaped_tup (ns : List Int) : SeqAt.shaped (.tuple (ns.map .int)) = true := by
  show (PyData.canLayAll0 (ns.map .int) && decide (PyData.depthAll (ns.map .int) + 1 ≤ 64)) = true
  rw [lay_ints, depth_ints]
  rfl
theorem shaped_lst (ns : List Int) : SeqAt.shaped (.list (ns.map .int)) = true := by
  show (PyData.canLayAll0 (ns.map .int) && decide (PyData.depthAll (ns.map .int) + 1 ≤ 64)) = true
  rw [lay_ints, depth_ints]
  rfl
theorem eqv_tup (ns : List Int) : PyData.eqv (.tuple (ns.map .int)) (.tuple (ns.map .int)) = true := eqv_ints ns
theorem eqv_lst (ns : List Int) : PyData.eqv (.list (ns.map .int)) (.list (ns.map .int)) = true := eqv_ints ns
theorem eqv_int (n : Int) : PyData.eqv (.int n) (.int n) = true := by simp [PyData.eqv]
theorem kit_tt : kitB "tuple" "tuple" = some true := by decide +kernel
theorem kit_ib : kitB "int" "bool" = some false := by decide +kernel
/-- one of the bad things -/
def rLBad' : List PyData → Out → Prop := fun ds o => ∃ (ns : List Int) (n : Int), ds = [.tuple (ns.map .int), .int n] ∧ ns.length ≤ 240 ∧ o = .val ((badD ns).getD (n % 15).toNat .none)
theorem bad_one (ns : List Int) (n : Int) : plainD ((badD ns).getD (n % 15).toNat .none) = true ∧ isPileD ((badD ns).getD (n % 15).toNat .none) = false := by
  have h0 : 0 ≤ n % 15 := Int.emod_nonneg _ (by decide)
  have h1 : n % 15 < 15 := Int.emod_lt_of_pos _ (by decide)
  have hm : (n % 15).toNat < (badD ns).length := by
    rw [badD_len]
    omega
  rw [List.getD_eq_getElem?_getD, List.getElem?_eq_getElem hm]
  exact bad_all ns _ (List.getElem_mem hm)
/-- the promise of a law: True, whatever the script -/
def spLaw (K : PySem.W.Frag) : Sp := fun vs H Q _ => ∃ (a : Addr) (ns : List Int), vs = [.ref a] ∧ SqL K H a (ns.map V.int) ∧ ns.length ≤ 63 ∧ ∀ H', Q (.bl true) H'
def rBounds : List PyData → Out → Prop := fun ds o => ds = [] ∧ o = .val (.bool true)
section
variable {K : PySem.W.Frag} {σ : L2.St} {G G0 H H0 : Hp} {D : Ends} {tu tz : TS} {ns : List Int}
/-- for k, c in enumerate(numbers): a word on the slots; the heap only grows -/
theorem d_forEn {wi : TI} {j l : Nat} (P : Part G0 H0 G H) (h : EvI wi σ G (enD (ns.map .int))) (C : L2.St → Prop) (hC : C σ)
    (hs : ∀ (k : Nat) (c : Int) (σ' : L2.St) (G' H' : Hp) (N : L2.St → Hp → Prop), k < ns.length → Ex G G' → Part G0 H0 G' H' → C σ' → (∀ σ2 H2, C σ2 → Ex H' H2 → N σ2 H2) →
      tu { D with nx := N, ct := N, bk := tz D } ((σ'.set j (some (.int (k : Nat)))).set l (some (.int c))) H')
    (hd : ∀ (σ' : L2.St) (G' H' : Hp), C σ' → Ex G G' → Part G0 H0 G' H' → tz D σ' H') :
    tSeq (tFor wi (gTup K 2 (gCons (gName j) (gCons (gName l) gNil))) tu) tz D σ H := by
  refine d_for P h (fun G1 _ σ' H' => C σ' ∧ Part G0 H0 G1 H') (fun G1 H1 p _ _ => ⟨hC, p⟩) (fun G1 i σ' H' _ q => q.2.sub) (fun G1 i x σ' H1 H' hi e1 q y => ?_) fun G1 σ' H' e1 q => hd σ' G1 H' q.1 e1 q.2
  obtain ⟨c, P1⟩ := q
  obtain ⟨G', d, p, e3, r⟩ := y G1 (Ex.refl G1) P1.sub
  rw [enD_len, List.length_map] at hi
  rw [enD_ints, List.getElem?_map, List.getElem?_range hi] at e3
  have e4 := (Option.some.inj e3).symm
  subst e4
  cases r with
  | @tup T xs _ et b =>
    cases b with
    | cons r1 b =>
      cases b with
      | cons r2 b =>
        cases b
        cases r1
        cases r2
        exact ⟨T, _, rfl, .inl (rd_up p.sub et), rfl, _, _, rfl, _, _, rfl, rfl, hs i _ σ' G' H' _ hi (e1.trans p.ext) (P1.trans p) c fun σ2 H2 c2 x2 => ⟨c2, P1.on (p.old.trans x2)⟩⟩
end
theorem row_of_pile {d : PyData} (h : isPileD d = false) : isRowD d = false := by
  unfold isRowD
  rw [h]
  rfl
theorem worthD_ints (ns : List Int) : worthD (.tuple (ns.map .int)) = worthI ns := by
  show worthI ((ns.map PyData.int).map toI) = _
  rw [toI_map]

/-! ### the errors, from the facts that the top leaves -/
structure ErrOne (K : PySem.W.Frag) (C M : Addr) : Prop where
  k : PySem.W.keepIn K (.ref C) = true
  x : PySem.W.excIn K C [.type "ValueError", .type "Exception", .type "BaseException", .type "object"] "ValueError.__new__" = true
  e : PySem.W.subIn K (.ref C) (.type "BaseException") = some true
  t : PySem.W.typeIn K (.ref C) = some (.type "type")
  ic : PySem.W.isClsIn K C = true
  m : PySem.W.subIn K (.ref C) (.ref M) = some true
  v : PySem.W.subIn K (.ref C) (.type "ValueError") = some true
  q : ExcC K C
theorem kit_ref {K : PySem.W.Frag} {D C : Addr} {b : Bool} (h1 : PySem.W.isClsIn K C = true) (h2 : PySem.W.typeIn K (.ref C) = some (.type "type")) (h3 : PySem.W.subIn K (.ref D) (.ref C) = some b) : PySem.W.kitCls K (.ref D) (.ref C) = some b := by
  have h1' : (PySem.W.clsIn K C).isSome = true := h1
  have e : ((PySem.W.clsIn K C).isSome && PySem.W.typeIn K (.ref C) == some (.type "type")) = true := by rw [h1', h2] <;> rfl
  show (if ((PySem.W.clsIn K C).isSome && PySem.W.typeIn K (.ref C) == some (.type "type")) = true then PySem.W.subIn K (.ref D) (.ref C) else none) = some b
  rw [if_pos e, h3]
theorem kit_one {K : PySem.W.Frag} {D : Addr} {c : Value} {b : Bool} (n : ((Value.ref D) == c) = true → b = true) (h : PySem.W.kitCls K (.ref D) c = some b) : PySem.W.kitOne K (.ref D) c = some b := by
  unfold PySem.W.kitOne
  by_cases z : ((Value.ref D) == c) = true
  · rw [if_pos z, n z]
  · rw [if_neg z, h]
theorem kit_same {K : PySem.W.Frag} {D : Addr} : PySem.W.kitOne K (.ref D) (.ref D) = some true := by
  unfold PySem.W.kitOne
  rw [if_pos (beq_self_eq_true _)]
theorem self_sub {K : PySem.W.Frag} {C : Addr} {bmB : List Value} {n : String} (x : PySem.W.excIn K C bmB n = true) : PySem.W.subIn K (.ref C) (.ref C) ≠ some false := by
  unfold PySem.W.excIn at x
  split at x
  · rename_i dd cd sl ho
    split at x
    · rename_i C' bm _ _ _ _ n' _ hm hsl
      simp only [Bool.and_eq_true, beq_iff_eq] at x
      have e : C' = C := x.1.1.1.1.1
      show PySem.W.mroIn K C (.ref C) ≠ some false
      unfold PySem.W.mroIn PySem.W.clsIn
      rw [ho]
      show (if cd.mro.isEmpty = true then none else some (cd.mro.contains (.ref C))) ≠ some false
      rw [hm, e, List.contains_cons, beq_self_eq_true, Bool.true_or]
      intro z
      cases z
    · cases x
  · cases x
theorem self_subT {K : PySem.W.Frag} {C : Addr} {bmB : List Value} {n : String} (x : PySem.W.excIn K C bmB n = true) : PySem.W.subIn K (.ref C) (.ref C) = some true := by
  unfold PySem.W.excIn at x
  split at x
  · rename_i dd cd sl ho
    split at x
    · rename_i C' bm _ _ _ _ n' _ hm hsl
      simp only [Bool.and_eq_true, beq_iff_eq] at x
      have e : C' = C := x.1.1.1.1.1
      show PySem.W.mroIn K C (.ref C) = some true
      unfold PySem.W.mroIn PySem.W.clsIn
      rw [ho]
      show (if cd.mro.isEmpty = true then none else some (cd.mro.contains (.ref C))) = some true
      rw [hm, e, List.contains_cons, beq_self_eq_true, Bool.true_or]
      rfl
    · cases x
  · cases x
def errAt (e0 e1 e2 e3 e4 e5 : Addr) : Nat → Addr
  | 0 => e0
  | 1 => e1
  | 2 => e2
  | 3 => e3
  | 4 => e4
  | _ => e5
def errOf {K : PySem.W.Frag} {mg : Str → Option Value} {M : Addr} {c : Nat → Addr} (gM : mg "MarkError" = some (.ref M)) (g0 : mg "NoPile" = some (.ref (c 0))) (g1 : mg "NoRow" = some (.ref (c 1))) (g2 : mg "NoMove" = some (.ref (c 2)))
    (g3 : mg "TooGreat" = some (.ref (c 3))) (g4 : mg "Below" = some (.ref (c 4))) (g5 : mg "NoText" = some (.ref (c 5))) (iM : PySem.W.isClsIn K M = true) (tM : PySem.W.typeIn K (.ref M) = some (.type "type"))
    (bM : PySem.W.subIn K (.ref M) (.type "BaseException") = some true) (o : ∀ i, i < 6 → ErrOne K (c i) M) (s : ∀ i j, i < 6 → j < 6 → i ≠ j → PySem.W.subIn K (.ref (c i)) (.ref (c j)) = some false) : ErrTxt K mg where
  M := M
  c := c
  gM := gM
  g0 := g0
  g1 := g1
  g2 := g2
  g3 := g3
  g4 := g4
  g5 := g5
  k := fun i h => (o i h).k
  x := fun i h => (o i h).x
  e := fun i h => (o i h).e
  t := fun i h => (o i h).t
  q := fun i h => (o i h).q
  kit := fun i j hi hj => by
    by_cases z : i = j
    · subst z
      rw [decide_eq_true rfl]
      exact kit_same
    · rw [decide_eq_false z]
      have k := s i j hi hj z
      refine kit_one (fun y => ?_) (kit_ref (o j hj).ic (o j hj).t k)
      have y2 : Value.ref (c i) = Value.ref (c j) := beq_iff_eq.mp y
      rw [← y2] at k
      exact absurd k (self_sub (o i hi).x)
  kitV := fun i hi => kit_one (fun _ => rfl) (by
    show (if PySem.W.kitMeta "ValueError" = true then PySem.W.subIn K (.ref (c i)) (.type "ValueError") else none) = some true
    rw [if_pos (by decide +kernel), (o i hi).v])
  exm := fun i hi => by
    unfold PySem.W.exmOne
    rw [if_pos (by rw [bM] <;> rfl)]
    exact kit_ref iM tM (o i hi).m
  exo := fun i j hi hj => by
    unfold PySem.W.exmOne
    rw [if_pos (by rw [(o j hj).e] <;> rfl)]
    refine kit_ref (o j hj).ic (o j hj).t ?_
    by_cases z : i = j
    · subst z
      rw [decide_eq_true rfl]
      exact self_subT (o i hi).x
    · rw [decide_eq_false z]
      exact s i j hi hj z
end Lm

set_option maxHeartbeats 2000000
/-! What moves.py means, in plain numbers. A move: (true, k) a join at k, (false, k) a part at k. -/
namespace Lm
open PySem PySem.Spec PyProof.Rows L2 Evl
def mvS (b : Bool) : Str := if b = true then "join" else "part"
def mvD (m : Bool × Int) : PyData := .tuple [.str (mvS m.1), .int m.2]
def goA (m : Bool × Int) : Int := m.2
def goB (m : Bool × Int) : Int := if m.1 = true then m.2 + 1 else m.2
def comeI (m : Bool × Int) : List Int := if m.1 = true then [m.2 + 2] else if m.2 = 0 then [1] else if m.2 = 1 then [0, 2] else [m.2 - 2, m.2 + 1]
def mwI (n : Int) : Int := if n = 0 then 3 else if n = 1 then 5 else 2 * n + 2
def weighI (ns : List Int) : Int := (ns.map mwI).sum
def dblI (ns : List Int) : List Int := ((List.range 100).filter fun k : Nat => decide (1 < ns.count (k : Int))).map fun k : Nat => (k : Int)
def joinI (ns : List Int) : List Int := ((List.range 99).filter fun k : Nat => decide ((k : Int) ∈ ns) && decide ((k : Int) + 1 ∈ ns)).map fun k : Nat => (k : Int)
def movesI (ns : List Int) : List (Bool × Int) := (joinI ns).map (fun k => (true, k)) ++ (dblI ns).map fun k => (false, k)
def leftI (ns : List Int) (m : Bool × Int) : List Int := (ns.erase (goA m)).erase (goB m)
def afterI (ns : List Int) (m : Bool × Int) : List Int := srt (leftI ns m ++ comeI m)
theorem range_strict (n : Nat) (f : Nat → Bool) : (((List.range n).filter f).map fun k : Nat => (k : Int)).Pairwise (· < ·) := by
  rw [List.pairwise_map]
  exact (List.pairwise_lt_range.filter f).imp fun h => by omega
theorem mem_dbl {ns : List Int} (h : ∀ n ∈ ns, 0 ≤ n ∧ n ≤ 99) (k : Int) : k ∈ dblI ns ↔ 1 < ns.count k := by
  unfold dblI
  rw [List.mem_map]
  constructor
  · rintro ⟨j, hj, rfl⟩
    exact of_decide_eq_true (List.mem_filter.mp hj).2
  · intro hk
    have hm : k ∈ ns := List.count_pos_iff.mp (by omega)
    have := h k hm
    have e : ((k.toNat : Nat) : Int) = k := by omega
    exact ⟨k.toNat, List.mem_filter.mpr ⟨List.mem_range.mpr (by omega), by rw [e]; exact decide_eq_true hk⟩, e⟩
theorem mem_join {ns : List Int} (h : ∀ n ∈ ns, 0 ≤ n ∧ n ≤ 99) (k : Int) : k ∈ joinI ns ↔ k ∈ ns ∧ k + 1 ∈ ns := by
  unfold joinI
  rw [List.mem_map]
  constructor
  · rintro ⟨j, hj, rfl⟩
    have := (List.mem_filter.mp hj).2
    rw [Bool.and_eq_true] at this
    exact ⟨of_decide_eq_true this.1, of_decide_eq_true this.2⟩
  · rintro ⟨h1, h2⟩
    have a := h k h1
    have b := h _ h2
    have e : ((k.toNat : Nat) : Int) = k := by omega
    refine ⟨k.toNat, List.mem_filter.mpr ⟨List.mem_range.mpr (by omega), ?_⟩, e⟩
    rw [e, decide_eq_true h1, decide_eq_true h2]
    rfl
theorem nx_cons (a b : Int) (r : List Int) : nx (a :: b :: r) = (a, b) :: nx (b :: r) := rfl
/-- a pair of neighbours with what stands between -/
theorem nx_mem : ∀ {ns : List Int} {p : Int × Int}, p ∈ nx ns → p.1 ∈ ns ∧ p.2 ∈ ns
  | [], p, h => by cases h
  | [a], p, h => by cases h
  | a :: b :: r, p, h => by
    rw [nx_cons, List.mem_cons] at h
    rcases h with rfl | h
    · exact ⟨List.mem_cons_self, List.mem_cons_of_mem _ List.mem_cons_self⟩
    · have := nx_mem h
      exact ⟨List.mem_cons_of_mem _ this.1, List.mem_cons_of_mem _ this.2⟩
theorem nx_join : ∀ {ns : List Int}, ns.Pairwise (· ≤ ·) → ∀ k : Int, (∃ p, p ∈ nx ns ∧ p.2 = p.1 + 1 ∧ p.1 = k) ↔ k ∈ ns ∧ k + 1 ∈ ns
  | [], _, k => by simp [nx]
  | [a], _, k => by
    constructor
    · rintro ⟨p, h, _⟩
      cases h
    · rintro ⟨h1, h2⟩
      simp at h1 h2
      omega
  | a :: b :: r, h, k => by
    have ih := nx_join (List.pairwise_cons.mp h).2 k
    have ha := (List.pairwise_cons.mp h).1
    have hb := (List.pairwise_cons.mp (List.pairwise_cons.mp h).2).1
    rw [nx_cons]
    constructor
    · rintro ⟨p, hp, e1, e2⟩
      rcases List.mem_cons.mp hp with rfl | hp
      · exact ⟨by simp at e2; simp [e2], by simp at e1 e2; simp [e1, e2]⟩
      · have := ih.mp ⟨p, hp, e1, e2⟩
        exact ⟨List.mem_cons_of_mem _ this.1, List.mem_cons_of_mem _ this.2⟩
    · rintro ⟨h1, h2⟩
      by_cases hk : k ∈ b :: r ∧ k + 1 ∈ b :: r
      · obtain ⟨p, hp, e⟩ := ih.mpr hk
        exact ⟨p, List.mem_cons_of_mem _ hp, e⟩
      · have ka : k = a := by
          rcases List.mem_cons.mp h1 with z | z
          · exact z
          · rcases List.mem_cons.mp h2 with y | y
            · have := ha k z
              omega
            · exact absurd ⟨z, y⟩ hk
        subst ka
        have h3 : k + 1 ∈ b :: r := by
          rcases List.mem_cons.mp h2 with y | y
          · omega
          · exact y
        have hn : k ∉ b :: r := fun z => hk ⟨z, h3⟩
        have hb2 : b = k + 1 := by
          have h4 := ha b List.mem_cons_self
          have h5 : b ≠ k := fun z => hn (by rw [z]; exact List.mem_cons_self)
          rcases List.mem_cons.mp h3 with y | y
          · exact y.symm
          · have := hb _ y
            omega
        exact ⟨(k, b), List.mem_cons_self, hb2, rfl⟩
theorem nx_dbl : ∀ {ns : List Int}, ns.Pairwise (· ≤ ·) → ∀ k : Int, (∃ p, p ∈ nx ns ∧ p.1 = p.2 ∧ p.1 = k) ↔ 1 < ns.count k
  | [], _, k => by simp [nx]
  | [a], _, k => by
    constructor
    · rintro ⟨p, h, _⟩
      cases h
    · intro h
      have := List.count_le_length (l := [a]) (a := k)
      simp at this
      omega
  | a :: b :: r, h, k => by
    have ih := nx_dbl (List.pairwise_cons.mp h).2 k
    have ha := (List.pairwise_cons.mp h).1
    have hb := (List.pairwise_cons.mp (List.pairwise_cons.mp h).2).1
    rw [nx_cons]
    have step : (a :: b :: r).count k = (b :: r).count k + if a = k then 1 else 0 := by
      rw [List.count_cons]
      congr 1
      by_cases z : a = k
      · rw [if_pos z, if_pos (by rw [z]; exact beq_self_eq_true k)]
      · rw [if_neg z, if_neg (by simpa using z)]
    rw [step]
    constructor
    · rintro ⟨p, hp, e1, e2⟩
      rcases List.mem_cons.mp hp with rfl | hp
      · simp only at e1 e2
        subst e2
        have : 0 < (b :: r).count a := List.count_pos_iff.mpr (by rw [e1]; exact List.mem_cons_self)
        rw [if_pos rfl]
        omega
      · have := ih.mp ⟨p, hp, e1, e2⟩
        omega
    · intro hc
      by_cases hk : 1 < (b :: r).count k
      · obtain ⟨p, hp, e⟩ := ih.mpr hk
        exact ⟨p, List.mem_cons_of_mem _ hp, e⟩
      · by_cases z : a = k
        · subst z
          rw [if_pos rfl] at hc
          have hm : a ∈ b :: r := List.count_pos_iff.mp (by omega)
          have hba : b = a := by
            have h4 := ha b List.mem_cons_self
            rcases List.mem_cons.mp hm with y | y
            · exact y.symm
            · have := hb _ y
              omega
          exact ⟨(a, b), List.mem_cons_self, hba.symm, rfl⟩
        · rw [if_neg z] at hc
          omega
theorem nx_lows : ∀ {ns : List Int}, ns.Pairwise (· ≤ ·) → (((nx ns).filter fun p => decide (p.2 = p.1 + 1)).map Prod.fst).Pairwise (· < ·)
  | [], _ => .nil
  | [_], _ => .nil
  | a :: b :: r, h => by
    have ih := nx_lows (List.pairwise_cons.mp h).2
    rw [nx_cons]
    by_cases z : b = a + 1
    · rw [List.filter_cons, if_pos (by simpa using z), List.map_cons]
      refine List.pairwise_cons.mpr ⟨fun x hx => ?_, ih⟩
      obtain ⟨p, hp, rfl⟩ := List.mem_map.mp hx
      have hm := (nx_mem (List.mem_filter.mp hp).1).1
      have hb := (List.pairwise_cons.mp (List.pairwise_cons.mp h).2).1
      show a < p.1
      rcases List.mem_cons.mp hm with y | y
      · omega
      · have := hb _ y
        omega
    · rw [List.filter_cons, if_neg (by simpa using z)]
      exact ih
theorem joins_nx {ns : List Int} (h : ns.Pairwise (· ≤ ·)) (hi : ∀ n ∈ ns, 0 ≤ n ∧ n ≤ 99) : ((nx ns).filter fun p => decide (p.2 = p.1 + 1)).map Prod.fst = joinI ns :=
  strict_one (nx_lows h) (range_strict 99 _) fun k => by
    rw [mem_join hi, ← nx_join h, List.mem_map]
    constructor
    · rintro ⟨p, hp, e⟩
      exact ⟨p, (List.mem_filter.mp hp).1, by simpa using (List.mem_filter.mp hp).2, e⟩
    · rintro ⟨p, hp, e1, e2⟩
      exact ⟨p, List.mem_filter.mpr ⟨hp, by simpa using e1⟩, e2⟩
theorem pile_rise {ns : List Int} (h : pileI ns = true) : ns.Pairwise (· ≤ ·) := by
  unfold pileI at h
  rw [Bool.and_eq_true, Bool.and_eq_true] at h
  exact nx_rise h.2.2
theorem mem_moves {ns : List Int} (hi : ∀ n ∈ ns, 0 ≤ n ∧ n ≤ 99) (m : Bool × Int) : m ∈ movesI ns ↔ goA m ∈ ns ∧ goB m ∈ ns.erase (goA m) := by
  obtain ⟨b, k⟩ := m
  unfold movesI
  rw [List.mem_append, List.mem_map, List.mem_map]
  cases b with
  | true =>
    show _ ↔ k ∈ ns ∧ k + 1 ∈ ns.erase k
    rw [List.mem_erase_of_ne (by omega : k + 1 ≠ k), ← mem_join hi]
    constructor
    · rintro (⟨j, hj, e⟩ | ⟨j, hj, e⟩)
      · cases e
        exact hj
      · cases e
    · intro h
      exact .inl ⟨k, h, rfl⟩
  | false =>
    show _ ↔ k ∈ ns ∧ k ∈ ns.erase k
    have e : (k ∈ ns ∧ k ∈ ns.erase k) ↔ 1 < ns.count k := by
      rw [← List.count_pos_iff, ← List.count_pos_iff, List.count_erase_self]
      omega
    rw [e, ← mem_dbl hi]
    constructor
    · rintro (⟨j, hj, e⟩ | ⟨j, hj, e⟩)
      · cases e
      · cases e
        exact hj
    · intro h
      exact .inr ⟨k, h, rfl⟩
end Lm

set_option maxHeartbeats 2000000
/-! More rules over plain data: unpacking, in, max, count, a list of one's own. -/
namespace Lm
open PySem PySem.Spec PyProof.Rows L2 Evl
theorem room65 {k : Nat} {A : Around} (hr : Room k A) : A.units + 65 < cLine := by
  have := hr.un
  omega
section
variable {K : PySem.W.Frag} {σ : L2.St} {G G0 H H0 : Hp} {ta tb te : TE} {D : Ends} {tz : TS} {a b d : PyData} {ds : List PyData} {ns : List Int}
/-- x, y = a pair -/
theorem d_unp {j l : Nat} (P : Part G0 H0 G H) (h : EvD te σ G (.tuple [a, b])) (k : ∀ x y G' H', Part G0 H0 G' H' → Ex G G' → Ex H H' → Rp G' x a → Rp G' y b → tz D ((σ.set j (some x)).set l (some y)) H') :
    tSeq (tAsg te (gTup K 2 (gCons (gName j) (gCons (gName l) gNil)))) tz D σ H := h H P.sub _ fun v G' H' p r => by
  cases r with
  | @tup T xs _ et c =>
    cases c with
    | cons r1 c =>
      cases c with
      | cons r2 c =>
        cases c
        exact ⟨T, _, rfl, .inl (rd_up p.sub et), rfl, _, _, rfl, _, _, rfl, rfl, k _ _ G' H' (P.trans p) p.ext p.old r1 r2⟩
/-- .. of a list -/
theorem d_unpL {j l : Nat} (P : Part G0 H0 G H) (h : EvD te σ G (.list [a, b])) (k : ∀ x y G' H', Part G0 H0 G' H' → Ex G G' → Ex H H' → Rp G' x a → Rp G' y b → tz D ((σ.set j (some x)).set l (some y)) H') :
    tSeq (tAsg te (gUnl K 2 (gCons (gName j) (gCons (gName l) gNil)))) tz D σ H := h H P.sub _ fun v G' H' p r => by
  cases r with
  | @lst T xs _ et c =>
    cases c with
    | cons r1 c =>
      cases c with
      | cons r2 c =>
        cases c
        exact ⟨T, _, rfl, .inl (.inl (p.sub _ _ et)), rfl, _, _, rfl, _, _, rfl, rfl, k _ _ G' H' (P.trans p) p.ext p.old r1 r2⟩
theorem inV_strs (s : Str) (ws : List Str) : inV (.str s) (ws.map V.str) = decide (s ∈ ws) := by
  unfold inV
  rw [List.any_map, Bool.eq_iff_iff, List.any_eq_true, decide_eq_true_eq]
  constructor
  · rintro ⟨x, hx, e⟩
    have e2 : (x == s) = true := e
    rw [← beq_iff_eq.mp e2]
    exact hx
  · intro h
    exact ⟨s, h, (beq_self_eq_true s : (s == s) = true)⟩
theorem inV_ints (n : Int) (ns : List Int) : inV (.int n) (ns.map V.int) = decide (n ∈ ns) := by
  unfold inV
  rw [List.any_map, Bool.eq_iff_iff, List.any_eq_true, decide_eq_true_eq]
  constructor
  · rintro ⟨x, hx, e⟩
    have e2 : (x == n) = true := e
    rw [← beq_iff_eq.mp e2]
    exact hx
  · intro h
    exact ⟨n, h, (beq_self_eq_true n : (n == n) = true)⟩
theorem RpA.strsV : ∀ {ws : List Str} {xs : List V}, RpA G xs (ws.map .str) → xs = ws.map V.str
  | [], _, .nil => rfl
  | w :: ws, _, .cons a b => by
    cases a
    rw [RpA.strsV b]
    rfl
theorem flat_strV (ws : List Str) : (ws.map V.str).all flatV = true := by
  rw [List.all_map]
  exact List.all_eq_true.mpr fun _ _ => rfl
theorem flat_intV (ns : List Int) : (ns.map V.int).all flatV = true := by
  rw [List.all_map]
  exact List.all_eq_true.mpr fun _ _ => rfl
theorem ed_inStrT {s : Str} {ws : List Str} (h : EvD ta σ G (.str s)) (k : EvD tb σ G (.tuple (ws.map .str))) : EvD (tOp (rIn K false) ta tb) σ G (.bool (decide (s ∈ ws))) := fun H x Q q =>
  h H x _ fun v G1 H1 p r => (k.mono p.ext) H1 p.sub _ fun w G2 H2 p2 r2 => by
    cases r
    cases r2 with
    | tup a b =>
      have e := RpA.strsV b
      subst e
      refine ⟨_, _, rfl, .inr (.inl (rd_up p2.sub a)), rfl, flat_strV ws, ?_⟩
      rw [inV_strs]
      exact q _ G2 H2 (p.trans p2) (.bl _)
theorem ed_inIntT {n : Int} (h : EvD ta σ G (.int n)) (k : EvD tb σ G (.tuple (ns.map .int))) : EvD (tOp (rIn K false) ta tb) σ G (.bool (decide (n ∈ ns))) := fun H x Q q =>
  h H x _ fun v G1 H1 p r => (k.mono p.ext) H1 p.sub _ fun w G2 H2 p2 r2 => by
    cases r
    cases r2 with
    | tup a b =>
      have e := b.ints
      subst e
      refine ⟨_, _, rfl, .inr (.inl (rd_up p2.sub a)), rfl, flat_intV ns, ?_⟩
      rw [inV_ints]
      exact q _ G2 H2 (p.trans p2) (.bl _)
theorem ed_notInD (h : EvD ta σ G d) (k : EvD tb σ G (.list ds)) (s1 : SeqAt.shaped d = true) (s2 : SeqAt.shaped (.list ds) = true) : EvD (tOp (rNotInD K) ta tb) σ G (.bool (!ds.any fun z => PyData.eqv z d)) := fun H x Q q =>
  h H x _ fun v G1 H1 p r => (k.mono p.ext) H1 p.sub _ fun w G2 H2 p2 r2 =>
    ⟨d, ds, Rp.dp p2.sub d v (SeqAt.canLay_of_shaped s1) (r.up p2.ext), Rp.dp p2.sub _ w (SeqAt.canLay_of_shaped s2) r2, s1, s2, q _ G2 H2 (p.trans p2) (.bl _)⟩
theorem ed_max {m : Int} (h : EvD ta σ G (.list (ns.map .int))) (hn : 0 < ns.length) (hm : ∀ k, k ∈ ns → (∀ y, y ∈ ns → y ≤ k) → k = m) : EvD (tCB (rMax K) (tCons ta tNil)) σ G (.int m) := fun H x Q q =>
  h H x _ fun v G1 H1 p r => by
    cases r with
    | lst a b =>
      have e := b.ints
      subst e
      refine ⟨_, ns, rfl, .inl (.inl (p.sub _ _ a)), hn, fun k k1 k2 => ?_⟩
      rw [hm k k1 k2]
      exact q _ G1 H1 p (.int _)
theorem ed_maxT {m : Int} (h : EvD ta σ G (.tuple (ns.map .int))) (hn : 0 < ns.length) (hm : ∀ k, k ∈ ns → (∀ y, y ∈ ns → y ≤ k) → k = m) : EvD (tCB (LmCnt.rMaxT K) (tCons ta tNil)) σ G (.int m) := fun H x Q q =>
  h H x _ fun v G1 H1 p r => by
    cases r with
    | tup a b =>
      have e := b.ints
      subst e
      refine ⟨_, ns, rfl, .inl (rd_up p.sub a), hn, fun k k1 k2 => ?_⟩
      rw [hm k k1 k2]
      exact q _ G1 H1 p (.int _)
end
end Lm

set_option maxHeartbeats 2000000
/-! Tuples of which the whole object is known: their methods may be called. -/
namespace LmFrz
open PySem PySem.Spec PyProof.Rows L2 LmCnt
section
variable {X : Cx}
abbrev newT (us : List Value) : Obj := { cls := .type "tuple", data := .seq us.toArray }
/-- (e, ..), the new object kept -/
def tTupF (t : TA) : TE := fun σ H Q => t σ H fun vs H1 => vs.length ≤ sizeLine ∧ ∀ a o, H1 a = none → o.dict = none → Q (.ref a) (upd H1 a (.frz o (.tup vs)))
theorem pe_tupF {es : List Expr} {t : TA} {x1 : Nat} {pos : Pos} (h : PA X es t) : PE X (.Tuple es x1 pos) (tTupF t) := by
  constructor
  intro pins s σ H Q I hq
  refine wpAny_Tuple_spliced (thn (h.run pos pins s σ H _ I hq) ?_)
  rintro us s1 ⟨xs, H1, I1, rv, hz, q⟩
  have lu : us.length ≤ sizeLine := by rw [← rv.length]; exact hz
  refine ⟨lu, ?_⟩
  refine ⟨.ref s1.heap.objs.size, upd H1 s1.heap.objs.size (.frz (newT us) (.tup xs)), I1.laid (t' := s1.toks) (fun b u e => Heap.get?_push_of_some _ e) (Nat.le_refl _) ?_, rfl, q _ _ (I1.hok.fresh (Nat.le_refl _)) rfl⟩
  exact ⟨Heap.get?_push_size _ rfl, hz, us, rv, ⟨_, Heap.get?_push_size _ rfl, rfl, _, rfl⟩⟩
/-- tuple(a list), the new object kept -/
def kTupF (K : PySem.W.Frag) (x : V) (H : Hp) (Q : VK) : Prop := ∃ p xs, x = .ref p ∧ SqL K H p xs ∧ ∀ q o, H q = none → o.dict = none → Q (.ref q) (upd H q (.frz o (.tup xs)))
theorem pe_tupleOfF {a : Expr} {ta : TE} {p pos : Pos} (hg : Gl X "tuple") (hm : X.mg "tuple" = none) (ha : PE X a ta) (na : starEach [a] X.env = (false, eval a X.env) :: starEach [] X.env := by rfl) :
    PE X (.Call (.Name "tuple" p) [a] [] pos) (tThen ta (kTupF X.K)) := by
  constructor
  intro pins s σ H Q I h
  refine Call_ (ld_blt I hg hm boot_tuple (PyProof.Rows.callWith_type1 (one_arg ha I h (fun v s2 x H2 I2 r q => ?_) na) na))
  obtain ⟨l, xs, rfl, hs, q⟩ := q
  cases r
  obtain ⟨us, rv, pl, hz⟩ := I2.list hs
  refine call_tuple_list pl.isList (fun h' hk => ?_) (by rw [List.size_toArray, ← rv.length]; exact hz)
  have J : Inv X pins σ H2 { s2 with heap := h' } := I2.kept (t' := s2.toks) hk
  exact ⟨.ref h'.objs.size, upd H2 h'.objs.size (.frz (newT us) (.tup xs)), J.laid (t' := s2.toks) (fun b o e => Heap.get?_push_of_some _ e) (Nat.le_refl _) ⟨Heap.get?_push_size _ rfl, hz, us, rv, ⟨_, Heap.get?_push_size _ rfl, rfl, _, rfl⟩⟩, rfl, q _ _ (J.hok.fresh (Nat.le_refl _)) rfl⟩
/-- t.count(k) of such a tuple -/
def tCntF (K : PySem.W.Frag) (to : TE) (t : TA) : TE := fun σ H Q => to σ H fun x H1 => (∃ p o xs, x = .ref p ∧ H1 p = some (.frz o (.tup xs)) ∧ o.dict = none) ∧ t σ H1 fun vs H2 => rCntT K x vs H2 Q
theorem pe_tcountF {o e : Expr} {to : TE} {t : TA} {apos cpos : Pos} (ho : PE X o to) (ha : PA X [e] t)
    (hb : attributeBase o "count" X.env (eval o X.env) = eval o X.env := by rfl)
    (hf : ((backTo cpos (starEach [e] X.env)).all (fun x => !x.1) && (backToKw cpos (keywordEach [] X.env)).all (fun x => x.1.isSome) && decide ([e].length + ([] : List Keyword).length + (if ([] : List Keyword).isEmpty then 0 else 1) < 30)) = true := by rfl)
    (hl : (apos.endLine == cpos.line) = true := by rfl) (hs : starEach [e] X.env = (false, eval e X.env) :: starEach [] X.env := by rfl) (hp : (backTo cpos (starEach [] X.env)).any (·.1) = false := by rfl) :
    PE X (.Call (.Attribute o "count" apos) [e] [] cpos) (tCntF X.K to t) := by
  constructor
  intro pins s σ H Q I h
  refine wpAny_Call_method_late hb hf hl rfl (thn (ho.run pins s σ H _ I h) ?_)
  rintro v s1 ⟨x, H1, I1, r1, ⟨p, ob, xs, rfl, hx, hd⟩, q1⟩
  cases r1
  obtain ⟨get, _, its, rv, IT⟩ := (show ObjOk X.prog X.w H1 s1.heap p (.frz ob (.tup xs)) from I1.hok p _ hx)
  obtain ⟨o2, g2, c2, _⟩ := IT
  have e2 : o2 = ob := by rw [get] at g2; exact (Option.some.inj g2).symm
  subst e2
  refine ⟨"tuple", "tuple.count", PySem.F.plainAttrs_tuple, PySem.F.slot_tuple_count, PySem.F.type_tuple_count, ⟨o2, get, c2⟩, fun a z => ?_, ?_⟩
  · cases z
    exact ⟨o2, get, hd⟩
  · have run := ha.run cpos pins s1 σ H1 _ I1 q1
    rw [hs] at run ⊢
    exact Calls.callWith_builtin (by show (false || (backTo cpos (starEach [] X.env)).any (·.1)) = false; rw [hp] <;> rfl) (Calls.evalArgs_plain (thn run fun us s2 ⟨vs, H2, I2, r2, q2⟩ => mt_tcount pins s2 σ H2 (.ref p) vs (.ref p) us Q I2 rfl r2 q2))
end
end LmFrz
namespace Lm
open PySem PySem.Spec PyProof.Rows L2 Evl LmFrz
section
variable {K : PySem.W.Frag} {σ : L2.St} {G : Hp} {ta tb te : TE} {tr : TA} {d : PyData} {ns : List Int}
theorem frz_new {G' H' : Hp} {a : Addr} {o : Obj} {vs : List V} (r : RpA G' vs (ns.map .int)) (hd : o.dict = none) : Rp (upd G' a (.frz o (.tup vs))) (.ref a) (frzD ns) := by
  have e := r.ints
  subst e
  exact .frz upd_same hd rfl
theorem ed_tupF (h : EdA tr σ G (ns.map .int)) (hl : ns.length ≤ 100000) : EvD (tTupF tr) σ G (frzD ns) := fun H x Q q =>
  h H x _ fun vs G1 H1 p r => ⟨by rw [r.len, List.length_map]; exact sz_of hl, fun a o n hd => q _ _ _ (p.add n) (frz_new (H' := H1) r hd)⟩
theorem ed_tupleLF (h : EvD ta σ G (.list (ns.map .int))) : EvD (tThen ta (kTupF K)) σ G (frzD ns) := fun H x Q q =>
  h H x _ fun v G1 H1 p r => by
    cases r with
    | lst a b => exact ⟨_, _, rfl, .inl (.inl (p.sub _ _ a)), fun l o n hd => q _ _ _ (p.add n) (frz_new (H' := H1) b hd)⟩
theorem ed_thaw (h : EvD ta σ G (frzD ns)) : EvD ta σ G (.tuple (ns.map .int)) := fun H x Q q => h H x Q fun v G' H' p r => q v G' H' p r.thaw
theorem ed_tcountF {n : Int} (h : EvD ta σ G (frzD ns)) (k : EvD tb σ G (.int n)) : EvD (tCntF K ta (tCons tb tNil)) σ G (.int (ns.count n : Nat)) := fun H x Q q =>
  h H x _ fun v G1 H1 p r => by
    cases r with
    | @frz a o ms _ x2 y z =>
      have e : ms = ns := by
        have := congrArg (List.map toI) z
        rw [toI_map, toI_map] at this
        exact this.symm
      subst e
      refine ⟨⟨_, _, _, rfl, p.sub _ _ x2, y⟩, (k.mono p.ext) H1 p.sub _ fun w G2 H2 p2 r2 => ?_⟩
      cases r2
      exact ⟨a, ms, n, rfl, rfl, .inl (.inr ⟨o, p2.sub _ _ (p2.ext _ _ x2)⟩), q _ G2 H2 (p.trans p2) (.int _)⟩
end
def rLPileF (K : PySem.W.Frag) : Hp → List PyData → Out → Prop := fun G ds o => ∃ (a : Addr) (ns : List Int) (f m : Nat), ds = [opq a, .int (f : Nat), .int (m : Nat)] ∧ SqL K G a (ns.map V.int) ∧ ns.length ≤ 100 ∧ f ≤ 1000 ∧ m ≤ 1000 ∧ o = .val (frzD (pileS ns f m))
end Lm

set_option maxHeartbeats 2000000
/-! What the defs of moves.py promise. -/
namespace Lm
open PySem PySem.Spec PyProof.Rows L2 Evl
def rMW : List PyData → Out → Prop := fun ds o => ∃ n : Int, ds = [.int n] ∧ o = .val (.int (mwI n))
def weighD : PyData → Int
  | .tuple ds => weighI (ds.map toI)
  | _ => 0
def rWeigh (C : Addr) : List PyData → Out → Prop := fun ds o => ∃ d, ds = [d] ∧ plainD d = true ∧ o = if isPileD d = true then .val (.int (weighD d)) else .err C
def rGoing : List PyData → Out → Prop := fun ds o => ∃ m, ds = [mvD m] ∧ o = .val (.list ([goA m, goB m].map .int))
def rComing : List PyData → Out → Prop := fun ds o => ∃ m, ds = [mvD m] ∧ o = .val (.list ((comeI m).map .int))
def isMvD : PyData → Bool
  | .tuple [.str s, p] => decide (s ∈ (["join", "part"] : List Str)) && isPlaceD p
  | _ => false
def rIsMove : List PyData → Out → Prop := fun ds o => ∃ d, ds = [d] ∧ plainD d = true ∧ o = .val (.bool (isMvD d))
/-- a pile's moves, or NoPile -/
def rMoves (C : Addr) : List PyData → Out → Prop := fun ds o => (∃ d, ds = [d] ∧ plainD d = true ∧ isPileD d = false ∧ o = .err C) ∨
  ∃ ns : List Int, ds = [.tuple (ns.map .int)] ∧ pileI ns = true ∧ ns.length ≤ 126 ∧ o = .val (.list ((movesI ns).map mvD))
theorem eqv_kind (b : Bool) : PyData.eqv (.str (mvS b)) (.str "join") = b := by cases b <;> decide +kernel
theorem shaped_kind (b : Bool) : SeqAt.shaped (.str (mvS b)) = true := by cases b <;> decide +kernel
theorem mv_is {m : Bool × Int} (h : 0 ≤ m.2 ∧ m.2 ≤ 99) : isMvD (mvD m) = true := by
  obtain ⟨b, k⟩ := m
  show (decide (mvS b ∈ (["join", "part"] : List Str)) && (decide (0 ≤ k) && decide (k ≤ 99))) = true
  rw [decide_eq_true h.1, decide_eq_true h.2]
  cases b <;> decide +kernel
theorem is_mv {d : PyData} (h : isMvD d = true) : ∃ m : Bool × Int, d = mvD m ∧ 0 ≤ m.2 ∧ m.2 ≤ 99 := by
  unfold isMvD at h
  split at h
  · rename_i s p
    rw [Bool.and_eq_true] at h
    cases p with
    | int k =>
      have hp := Bool.and_eq_true_iff.mp (show (decide (0 ≤ k) && decide (k ≤ 99)) = true from h.2)
      have hs := of_decide_eq_true h.1
      simp only [List.mem_cons, List.not_mem_nil, or_false] at hs
      rcases hs with rfl | rfl
      · exact ⟨(true, k), rfl, of_decide_eq_true hp.1, of_decide_eq_true hp.2⟩
      · exact ⟨(false, k), rfl, of_decide_eq_true hp.1, of_decide_eq_true hp.2⟩
    | _ => cases h.2
  · cases h
end Lm

set_option maxHeartbeats 2000000
/-! A list of one's own that changes; a list that a def hands out anew. -/
namespace Lm
open PySem PySem.Spec PyProof.Rows L2 Evl
section
variable {G G0 G1 G' H H0 H' : Hp} {l : Addr} {o o' : HO}
/-- what the part doesn't know may change -/
theorem Part.mut (P : Part G0 H0 G H) (hg : G l = none) (h0 : H0 l = none) : Part G0 H0 G (upd H l o) where
  ext := P.ext
  sub := fun a u h => by
    rw [upd_ne (ne_of_none h hg)]
    exact P.sub a u h
  old := fun a u h => by
    rw [upd_ne (ne_of_none h h0)]
    exact P.old a u h
  new := P.new
/-- from now on the part knows it too -/
theorem Part.take (P : Part G0 H0 G H) (hg : G l = none) (h0 : H0 l = none) (h : H l = some o) : Part G0 H0 (upd G l o) H where
  ext := P.ext.trans (Ex.new hg)
  sub := fun a u k => by
    by_cases e : a = l
    · subst e
      rw [upd_same] at k
      rw [← k]
      exact h
    · rw [upd_ne e] at k
      exact P.sub a u k
  old := P.old
  new := fun a u k n => by
    by_cases e : a = l
    · subst e
      exact h0
    · rw [upd_ne e] at k
      exact P.new a u k n
/-- what was there is not in the part's news -/
theorem Part.off (P : Part G H G' H') (hg : G l = none) (h : H l = some o) : G' l = none := by
  cases z : G' l with
  | none => rfl
  | some u =>
    have k := P.new l u z hg
    rw [h] at k
    cases k
end
theorem erase_one : ∀ {ns : List Int} {k : Int}, k ∈ ns → ∃ j, ns[j]? = some k ∧ (∀ m : Nat, m < j → ns[m]? ≠ some k) ∧ ns.eraseIdx j = ns.erase k
  | [], _, h => by cases h
  | n :: ns, k, h => by
    by_cases z : n = k
    · subst z
      exact ⟨0, rfl, fun m hm => by omega, by simp⟩
    · obtain ⟨j, h1, h2, h3⟩ := erase_one (ns := ns) (k := k) (by
        rcases List.mem_cons.mp h with y | y
        · exact absurd y.symm z
        · exact y)
      refine ⟨j + 1, by simpa using h1, fun m hm => ?_, ?_⟩
      · cases m with
        | zero => simpa using z
        | succ m => simpa using h2 m (by omega)
      · rw [List.eraseIdx_cons_succ, h3, List.erase_cons_tail (by simpa using z)]
section
variable {K : PySem.W.Frag} {σ : L2.St} {G G0 H H0 : Hp} {ta tb te : TE} {tr : TA} {D : Ends} {tz : TS} {d : PyData} {ds es : List PyData} {ns : List Int}
/-- x = list(t): a list of one's own -/
theorem d_listT {i : Nat} (P : Part G0 H0 G H) (h : EvD ta σ G (.tuple (ns.map .int))) (k : ∀ l H', H l = none → H' l = some (.lst (ns.map V.int)) → Part G0 H0 G H' → G l = none → H0 l = none → tz D (σ.set i (some (.ref l))) H') :
    tSeq (tAsg (tCB (rListS K) (tCons ta tNil)) (gName i)) tz D σ H := h H P.sub _ fun v G1 H1 p r => by
  cases r with
  | tup a b =>
    have e := b.ints
    subst e
    refine ⟨_, _, rfl, .inr (.inl (rd_up p.sub a)), fun l n => ?_⟩
    have n0 := fresh_back p.old n
    exact k l _ n0 upd_same ((P.on p.old).on (Ex.new n)) (fresh_back P.sub n0) (fresh_back P.old n0)
/-- x.remove(k) -/
theorem s_rem {l : Addr} {k : Int} (hl : H l = some (.lst (ns.map V.int))) (ha : Ev ta σ H (.ref l)) (h : Ev te σ H (.int k)) (hm : k ∈ ns) (q : ∀ H1, Ex H H1 → D.nx σ (upd H1 l (.lst ((ns.erase k).map V.int)))) :
    tDrop (tBM K "list" rRemI ta (tCons te tNil)) D σ H := ha H (Ex.refl H) _ fun H1 e1 => by
  refine ⟨Or.inl ⟨rfl, _, sq_of (e1 l _ hl)⟩, h H1 e1 _ fun H2 e2 => ?_⟩
  obtain ⟨j, h1, h2, h3⟩ := erase_one hm
  refine ⟨l, ns, k, j, rfl, rfl, e2 l _ (e1 l _ hl), h1, h2, ?_⟩
  rw [h3]
  exact q H2 (e1.trans e2)
end
/-! ### a list that is new -/
def WantN (o : Out) (G H : Hp) (Q : VK) (E : XK) : Prop := match o with
  | .val d => ∀ p G' H', Part G H G' H' → Rp G' (.ref p) d → G p = none → Q (.ref p) H'
  | .err C => ∀ H', Ex H H' → E (.ref C) none H'
def spN (r : List PyData → Out → Prop) : Sp := fun vs H Q E => ∃ G ds o, Ex G H ∧ RpA G vs ds ∧ r ds o ∧ WantN o G H Q E
section
variable {P : Program} {w : World} {K : PySem.W.Frag} {mg : Str → Option Value} {base : Heap} {x : Str} {ps N : List Str} {st : Stmt} {k : Nat} {f : Addr}
theorem Has.plain {r : List PyData → Out → Prop} (h : Has P w K mg base x ps k (spN r)) : Has P w K mg base x ps k (spO r) := by
  obtain ⟨f, fd, h1, h2, h3, h4⟩ := h.ex
  refine ⟨f, fd, h1, h2, h3, h4.imp ?_⟩
  rintro vs H Q E ⟨G, ds, o, e, rp, hr, q⟩
  refine ⟨G, ds, o, e, rp, hr, ?_⟩
  cases o with
  | val d => exact fun p G' H' P r _ => q _ G' H' P r
  | err C => exact q
theorem has_ofN {r : List PyData → Out → Prop} (a : At K mg x ps st f) (S : FnScope N ps (defScope st)) (hl : ∀ ds o, r ds o → ds.length = ps.length)
    (hbody : ∀ (cdv : Value) (A : Around) (outer : List Env) (s : Shared) (H : Hp) (vs : List V) (Q : VK) (E : XK), Room k (A.deeper (envOfC x (defScope st) s.heap.objs.size f cdv)) →
      (∃ t, PSs (cxOf (L2.CX P w) P w K mg base N x (defScope st) f cdv A outer s H E) (defBody st) t ∧
        ∀ G ds o, Ex G H → RpA G vs ds → r ds o → WantN o G H Q E → t { nx := fun _ H' => Q .non H', rt := Q } (start N vs) H)) : Has P w K mg base x ps (k + 1) (spN r) := by
  obtain ⟨fd, F, b⟩ := a.ex
  refine ⟨f, fd, a.g, F.kp, b, F.okX S (fun vs H Q E h => ?_) (fun cdv A outer s H vs Q E hr h => ?_)⟩
  · obtain ⟨G, ds, o, _, rp, h, _⟩ := h
    rw [rp.len]
    exact hl ds o h
  · obtain ⟨t, h1, h2⟩ := hbody cdv A outer s H vs Q E hr
    obtain ⟨G, ds, o, e, rp, h, q⟩ := h
    exact ⟨t, h1, h2 G ds o e rp h q⟩
end
section
variable {K : PySem.W.Frag} {σ : L2.St} {G G0 H H0 : Hp} {ta tb te : TE} {tr : TA} {D : Ends} {tz : TS} {d : PyData} {ds es : List PyData} {E : XK}
/-- return x + y, a new list -/
theorem d_retCat (P : Part G0 H0 G H) (h : EvD ta σ G (.list ds)) (k : EvD tb σ G (.list es)) (hl : ds.length + es.length ≤ 100000) (q : WantN (.val (.list (ds ++ es))) G0 H0 D.rt E) : tRet (tOp rCat ta tb) D σ H :=
  h H P.sub _ fun v G1 H1 p r => (k.mono p.ext) H1 p.sub _ fun w G2 H2 p2 r2 => by
    cases r with
    | lst a b =>
      cases r2 with
      | lst a2 b2 =>
        refine ⟨_, _, _, _, rfl, rfl, p2.sub _ _ (p2.ext _ _ a), p2.sub _ _ a2, by rw [b.len, b2.len]; exact sz_of hl, fun l n => ?_⟩
        have pz := (P.trans (p.trans p2))
        exact q l _ _ (pz.add n) (.lst upd_same (((b.up p2.ext).snoc b2).up (Ex.new (fresh_back p2.sub n)))) (fresh_back (pz.ext.trans p2.sub) n)
/-- x = f(..), the list new -/
theorem d_asgN {i : Nat} {r : List PyData → Out → Prop} (P : Part G0 H0 G H) (h : EdA tr σ G ds) (hr : r ds (.val (.list es))) (k : ∀ p G' H', Part G0 H0 G' H' → Ex G G' → Ex H H' → Rp G' (.ref p) (.list es) → G p = none → H p = none → tz D (σ.set i (some (.ref p))) H') :
    tSeq (tAsg (tCall (spN r) [] E tr) (gName i)) tz D σ H := h H P.sub _ fun vs G1 H1 p rs =>
  ⟨G1, ds, .val (.list es), p.sub, by rw [List.append_nil]; exact rs, hr, fun a G' H' p2 rp n => k a G' H' (P.trans (p.trans p2)) (p.ext.trans p2.ext) (p.old.trans p2.old) rp (fresh_back p.ext n) (by
    cases rp with
    | lst x y => exact fresh_back p.old (p2.new a _ x n))⟩
end
/-! ### pairs of neighbours, as data -/
def prD (p : Int × Int) : PyData := .tuple [.int p.1, .int p.2]
def jnF : PyData → Bool
  | .tuple [.int a, .int b] => decide (b = a + 1)
  | _ => false
def jnW : PyData → PyData
  | .tuple [.int a, _] => mvD (true, a)
  | _ => .none
def dbF : PyData → Bool
  | .tuple [.int a, .int b] => decide (a = b)
  | _ => false
def dbW : PyData → Int
  | .tuple [.int a, _] => a
  | _ => 0
theorem joins_lc {ns : List Int} (h : ns.Pairwise (· ≤ ·)) (hi : ∀ n ∈ ns, 0 ≤ n ∧ n ≤ 99) : lcD jnF jnW ((nx ns).map prD) = ((joinI ns).map fun k => (true, k)).map mvD := by
  unfold lcD
  rw [List.filter_map, List.map_map, ← joins_nx h hi, List.map_map, List.map_map]
  rfl
theorem kept_dbl {ns : List Int} (h : ns.Pairwise (· ≤ ·)) (hi : ∀ n ∈ ns, 0 ≤ n ∧ n ≤ 99) (k : Int) : k ∈ dblI ns ↔ Kept dbF dbW ((nx ns).map prD) k := by
  rw [mem_dbl hi, ← nx_dbl h]
  unfold Kept
  constructor
  · rintro ⟨p, hp, e1, e2⟩
    exact ⟨prD p, List.mem_map_of_mem hp, decide_eq_true e1, e2⟩
  · rintro ⟨d, hd, e1, e2⟩
    obtain ⟨p, hp, rfl⟩ := List.mem_map.mp hd
    exact ⟨p, hp, of_decide_eq_true e1, e2⟩
theorem joinI_len (ns : List Int) : (joinI ns).length ≤ 99 := by
  unfold joinI
  rw [List.length_map]
  exact Nat.le_trans (List.length_filter_le _ _) (by rw [List.length_range]; exact Nat.le_refl _)
theorem dblI_len (ns : List Int) : (dblI ns).length ≤ 100 := by
  unfold dblI
  rw [List.length_map]
  exact Nat.le_trans (List.length_filter_le _ _) (by rw [List.length_range]; exact Nat.le_refl _)
theorem filter_count {ns : List Int} {k j : Int} (h : j ≠ k) : (ns.filter fun x => decide (x ≠ k)).count j = ns.count j := by
  rw [List.count_filter]
  exact decide_eq_true h
theorem filter_len (k : Int) : ∀ ns : List Int, (ns.filter fun x => decide (x ≠ k)).length + ns.count k = ns.length
  | [] => rfl
  | n :: ns => by
    have ih := filter_len k ns
    by_cases z : n = k
    · subst z
      rw [List.filter_cons, if_neg (by simp), List.count_cons_self, List.length_cons]
      omega
    · rw [List.filter_cons, if_pos (by simpa using z), List.count_cons_of_ne z, List.length_cons, List.length_cons]
      omega
theorem two_each : ∀ (l ns : List Int), l.Nodup → 2 * (l.filter fun k => decide (1 < ns.count k)).length ≤ ns.length
  | [], ns, _ => Nat.zero_le _
  | k :: l, ns, h => by
    have h2 := List.nodup_cons.mp h
    by_cases z : 1 < ns.count k
    · have ih := two_each l (ns.filter fun x => decide (x ≠ k)) h2.2
      have e : (l.filter fun j => decide (1 < (ns.filter fun x => decide (x ≠ k)).count j)) = l.filter fun j => decide (1 < ns.count j) := List.filter_congr fun j hj => by
        rw [filter_count (k := k) (j := j) fun e => h2.1 (by rw [← e]; exact hj)]
      rw [e] at ih
      have := filter_len k ns
      rw [List.filter_cons, if_pos (decide_eq_true z), List.length_cons]
      omega
    · rw [List.filter_cons, if_neg (by simpa using z)]
      exact two_each l ns h2.2
/-- no more than half as many places stand twice -/
theorem dblI_half (ns : List Int) : 2 * (dblI ns).length ≤ ns.length := by
  have h := two_each ((List.range 100).map fun k : Nat => (k : Int)) ns (by
    rw [List.nodup_iff_pairwise_ne, List.pairwise_map]
    exact List.pairwise_lt_range.imp fun h => by omega)
  rw [List.filter_map, List.length_map] at h
  unfold dblI
  rw [List.length_map]
  exact h
/-! ### moves compared -/
theorem eqv_mv (a b : Bool × Int) : PyData.eqv (mvD a) (mvD b) = decide (a = b) := by
  obtain ⟨x, i⟩ := a
  obtain ⟨y, j⟩ := b
  have e1 : PyData.eqv (mvD (x, i)) (mvD (y, j)) = (PyData.eqv (.str (mvS x)) (.str (mvS y)) && (PyData.eqv (.int i) (.int j) && true)) := rfl
  have e2 : PyData.eqv (.str (mvS x)) (.str (mvS y)) = decide (x = y) := by cases x <;> cases y <;> decide +kernel
  have e3 : PyData.eqv (.int i) (.int j) = decide (i = j) := by simp [PyData.eqv]; exact Bool.eq_iff_iff.mpr (by rw [beq_iff_eq, decide_eq_true_eq])
  rw [e1, e2, e3, Bool.and_true, Bool.eq_iff_iff, Bool.and_eq_true, decide_eq_true_eq, decide_eq_true_eq, decide_eq_true_eq]
  constructor
  · rintro ⟨rfl, rfl⟩
    rfl
  · intro h
    cases h
    exact ⟨rfl, rfl⟩
theorem any_mv (ms : List (Bool × Int)) (m : Bool × Int) : ((ms.map mvD).any fun z => PyData.eqv z (mvD m)) = decide (m ∈ ms) := by
  rw [List.any_map, Bool.eq_iff_iff, List.any_eq_true, decide_eq_true_eq]
  constructor
  · rintro ⟨x, hx, e⟩
    have e2 : decide (x = m) = true := by rw [← eqv_mv]; exact e
    rw [← of_decide_eq_true e2]
    exact hx
  · intro h
    refine ⟨m, h, ?_⟩
    show PyData.eqv (mvD m) (mvD m) = true
    rw [eqv_mv, decide_eq_true rfl]
theorem lay_mv (m : Bool × Int) : PyData.canLay0 (mvD m) = true ∧ PyData.depth (mvD m) ≤ 1 := by
  obtain ⟨b, k⟩ := m
  have l0 : PyData.canLay0 (.str (mvS b)) = true := by cases b <;> decide +kernel
  constructor
  · show (PyData.canLay0 (.str (mvS b)) && (true && true)) = true
    rw [l0]
    rfl
  · exact Nat.le_refl 1
theorem shaped_mv (m : Bool × Int) : SeqAt.shaped (mvD m) = true := by
  obtain ⟨h1, h2⟩ := lay_mv m
  show (PyData.canLay0 (mvD m) && decide (PyData.depth (mvD m) ≤ 64)) = true
  rw [h1, decide_eq_true (by omega)]
  rfl
theorem lay_mvs : ∀ ms : List (Bool × Int), PyData.canLayAll0 (ms.map mvD) = true ∧ PyData.depthAll (ms.map mvD) ≤ 1
  | [] => ⟨rfl, by decide⟩
  | m :: ms => by
    obtain ⟨h1, h2⟩ := lay_mv m
    obtain ⟨h3, h4⟩ := lay_mvs ms
    constructor
    · show (PyData.canLay0 (mvD m) && PyData.canLayAll0 (ms.map mvD)) = true
      rw [h1, h3]
      rfl
    · show max (PyData.depth (mvD m)) (PyData.depthAll (ms.map mvD)) ≤ 1
      omega
theorem shaped_mvs (ms : List (Bool × Int)) : SeqAt.shaped (.list (ms.map mvD)) = true := by
  obtain ⟨h3, h4⟩ := lay_mvs ms
  show (PyData.canLayAll0 (ms.map mvD) && decide (PyData.depthAll (ms.map mvD) + 1 ≤ 64)) = true
  rw [h3, decide_eq_true (by omega)]
  rfl
theorem eqv_mvs : ∀ ms : List (Bool × Int), PyData.eqv (.list (ms.map mvD)) (.list (ms.map mvD)) = true
  | [] => rfl
  | m :: ms => by
    show (PyData.eqv (mvD m) (mvD m) && PyData.eqv (.list (ms.map mvD)) (.list (ms.map mvD))) = true
    rw [eqv_mv, decide_eq_true rfl, eqv_mvs ms]
    rfl
section
variable {σ : L2.St} {G G0 H H0 : Hp} {D : Ends} {tu tz : TS}
/-- for, where the start tells how the part grew from here -/
theorem d_forM {wi : TI} {g : TG} {its : List PyData} (P : Part G0 H0 G H) (h : EvI wi σ G its) (Pv : Hp → Nat → L2.St → Hp → Prop) (h0 : ∀ G1 H1, Part G H G1 H1 → Pv G1 0 σ H1) (hG : ∀ G1 i σ' H', i ≤ its.length → Pv G1 i σ' H' → Ex G1 H')
    (hs : ∀ G1 i x σ' H1 H', i < its.length → Ex G G1 → Pv G1 i σ' H1 → YSrc its G1 i H1 x H' → g x σ' H' fun σ2 H2 => tu { D with nx := Pv G1 (i + 1), ct := Pv G1 (i + 1), bk := tz D } σ2 H2) (hd : ∀ G1 σ' H', Ex G G1 → Pv G1 its.length σ' H' → tz D σ' H') :
    tSeq (tFor wi g tu) tz D σ H := h H P.sub _ fun J G1 H1 p W =>
  for_it (D := { D with nx := tz D }) W (Pv G1) (h0 G1 H1 p) (hG G1) (fun i x σ' Ha Hb hi q y => hs G1 i x σ' Ha Hb hi p.ext q y) (fun σ' H' q => hd G1 σ' H' p.ext q)
end
/-! ### a move done -/
def topI (m : Bool × Int) : Int := if m.1 = true then m.2 + 2 else if m.2 = 0 then 1 else if m.2 = 1 then 2 else m.2 + 1
theorem top_one (m : Bool × Int) : ∀ k, k ∈ comeI m → (∀ y, y ∈ comeI m → y ≤ k) → k = topI m := by
  intro k h1 h2
  unfold comeI topI at *
  split at h1
  · simp at h1
    rename_i z
    rw [if_pos z, h1]
  · rename_i z
    rw [if_neg z]
    rw [if_neg z] at h2
    split at h1
    · rename_i y
      simp at h1
      rw [if_pos y, h1]
    · rename_i y
      rw [if_neg y]
      rw [if_neg y] at h2
      split at h1
      · rename_i x
        rw [if_pos x]
        rw [if_pos x] at h2
        have := h2 2 (by simp)
        simp at h1
        omega
      · rename_i x
        rw [if_neg x]
        rw [if_neg x] at h2
        have := h2 (m.2 + 1) (by simp)
        simp at h1
        omega
theorem come_len (m : Bool × Int) : 0 < (comeI m).length ∧ (comeI m).length ≤ 2 := by
  unfold comeI
  split
  · exact ⟨by simp, by simp⟩
  · split
    · exact ⟨by simp, by simp⟩
    · split <;> exact ⟨by simp, by simp⟩
theorem come_top (m : Bool × Int) : topI m ∈ comeI m ∧ ∀ y ∈ comeI m, y ≤ topI m := by
  unfold comeI topI
  split
  · simp
  · split
    · simp
    · split
      · simp
      · simp
        omega
def doneO (C2 C3 : Addr) (ns : List Int) (m : Bool × Int) : Out := if m ∈ movesI ns then (if 99 < topI m then .err C3 else .val (.tuple ((afterI ns m).map .int))) else .err C2
def rDone (C0 C2 C3 : Addr) : List PyData → Out → Prop := fun ds o => (∃ d m, ds = [d, m] ∧ plainD d = true ∧ isPileD d = false ∧ o = .err C0) ∨
  (∃ (ns : List Int) (d : PyData), ds = [.tuple (ns.map .int), d] ∧ pileI ns = true ∧ ns.length ≤ 126 ∧ plainD d = true ∧ isMvD d = false ∧ o = .err C2) ∨
  ∃ (ns : List Int) (m : Bool × Int), ds = [.tuple (ns.map .int), mvD m] ∧ pileI ns = true ∧ ns.length ≤ 126 ∧ 0 ≤ m.2 ∧ m.2 ≤ 99 ∧ o = doneO C2 C3 ns m
theorem erase_len (ns : List Int) (k : Int) : (ns.erase k).length ≤ ns.length := (List.erase_sublist).length_le
theorem left_len (ns : List Int) (m : Bool × Int) : (leftI ns m).length ≤ ns.length := Nat.le_trans (erase_len _ _) (erase_len _ _)
theorem ed_callN {σ : L2.St} {G : Hp} {tr : TA} {ds : List PyData} {d : PyData} {E : XK} {r : List PyData → Out → Prop} (h : EdA tr σ G ds) (hr : r ds (.val d)) : EvD (tCall (spN r) [] E tr) σ G d := fun H x Q q =>
  h H x _ fun vs G1 H1 p rs => ⟨G1, ds, .val d, p.sub, by rw [List.append_nil]; exact rs, hr, fun a G' H' p2 rp _ => q _ G' H' (p.trans p2) rp⟩
theorem rg_lc {n : Nat} (f : PyData → Bool) (F : PyData → PyData) (g : Nat → Bool) (W : Int → PyData) (h1 : ∀ k : Nat, f (.int (k : Int)) = g k) (h2 : ∀ k : Nat, F (.int (k : Int)) = W (k : Int)) :
    lcD f F (rgD 0 n) = (((List.range n).filter g).map fun k : Nat => (k : Int)).map W := by
  unfold lcD rgD
  rw [List.filter_map, List.map_map, List.map_map]
  have e : (f ∘ fun k : Nat => PyData.int (0 + (k : Nat))) = g := by
    funext k
    show f (.int (0 + (k : Int))) = g k
    rw [Int.zero_add, h1]
  rw [e]
  refine List.map_congr_left fun k _ => ?_
  show F (.int (0 + (k : Int))) = W (k : Int)
  rw [Int.zero_add, h2]
end Lm

set_option maxHeartbeats 2000000
/-! What a move does to worth and weight; what the law's own defs promise. -/
namespace Lm
open PySem PySem.Spec PyProof.Rows L2 Evl
theorem sum_perm {l m : List Int} (p : l.Perm m) : l.sum = m.sum := by
  induction p with
  | nil => rfl
  | cons x _ ih => rw [List.sum_cons, List.sum_cons, ih]
  | swap x y l => rw [List.sum_cons, List.sum_cons, List.sum_cons, List.sum_cons]; omega
  | trans _ _ h1 h2 => rw [h1, h2]
theorem sum_erase {l : List Int} {a : Int} (f : Int → Int) (h : a ∈ l) : (l.map f).sum = f a + ((l.erase a).map f).sum := by
  rw [sum_perm ((List.perm_cons_erase h).map f), List.map_cons, List.sum_cons]
theorem sum_after {ns : List Int} {m : Bool × Int} (f : Int → Int) (h1 : goA m ∈ ns) (h2 : goB m ∈ ns.erase (goA m)) :
    (ns.map f).sum = f (goA m) + f (goB m) + ((leftI ns m).map f).sum ∧ ((afterI ns m).map f).sum = ((leftI ns m).map f).sum + ((comeI m).map f).sum := by
  constructor
  · rw [sum_erase f h1, sum_erase f h2]
    unfold leftI
    omega
  · unfold afterI
    rw [sum_perm ((srt_perm _).map f), List.map_append, List.sum_append]
theorem fw_two (k : Nat) : fw (k + 2) = fw k + fw (k + 1) := rfl
theorem worth_keeps {ns : List Int} {m : Bool × Int} (h0 : 0 ≤ m.2) (h1 : goA m ∈ ns) (h2 : goB m ∈ ns.erase (goA m)) : worthI (afterI ns m) = worthI ns := by
  unfold worthI
  obtain ⟨e1, e2⟩ := sum_after (fun i => fw i.toNat) h1 h2
  have key : (fun i : Int => fw i.toNat) (goA m) + (fun i : Int => fw i.toNat) (goB m) = ((comeI m).map fun i => fw i.toNat).sum := by
    obtain ⟨b, k⟩ := m
    have hk : 0 ≤ k := h0
    unfold goA goB comeI
    cases b with
    | true =>
      show fw k.toNat + fw (k + 1).toNat = (List.map (fun i : Int => fw i.toNat) [k + 2]).sum
      rw [show (k + 1).toNat = k.toNat + 1 by omega, List.map_cons, List.map_nil, List.sum_cons, List.sum_nil, show (k + 2).toNat = k.toNat + 2 by omega, fw_two]
      omega
    | false =>
      show fw k.toNat + fw k.toNat = (List.map (fun i : Int => fw i.toNat) (if k = 0 then [1] else if k = 1 then [0, 2] else [k - 2, k + 1])).sum
      split
      · rename_i z
        subst z
        decide
      · split
        · rename_i z
          subst z
          decide
        · obtain ⟨j, ej⟩ : ∃ j : Nat, k = (j : Int) + 2 := ⟨(k - 2).toNat, by omega⟩
          subst ej
          rw [List.map_cons, List.map_cons, List.map_nil, List.sum_cons, List.sum_cons, List.sum_nil, show ((j : Int) + 2).toNat = j + 2 by omega, show ((j : Int) + 2 - 2).toNat = j by omega, show ((j : Int) + 2 + 1).toNat = (j + 1) + 2 by omega, fw_two (j + 1), show j + 1 + 1 = j + 2 by omega, fw_two j]
          omega
  simp only at key
  omega
theorem weigh_less {ns : List Int} {m : Bool × Int} (h0 : 0 ≤ m.2) (h1 : goA m ∈ ns) (h2 : goB m ∈ ns.erase (goA m)) : weighI (afterI ns m) < weighI ns := by
  unfold weighI
  obtain ⟨e1, e2⟩ := sum_after mwI h1 h2
  have key : ((comeI m).map mwI).sum < mwI (goA m) + mwI (goB m) := by
    obtain ⟨b, k⟩ := m
    have hk : 0 ≤ k := h0
    unfold goA goB comeI
    cases b with
    | true =>
      show (List.map mwI [k + 2]).sum < mwI k + mwI (k + 1)
      rw [List.map_cons, List.map_nil, List.sum_cons, List.sum_nil]
      unfold mwI
      repeat' split
      all_goals omega
    | false =>
      show (List.map mwI (if k = 0 then [1] else if k = 1 then [0, 2] else [k - 2, k + 1])).sum < mwI k + mwI k
      split
      · rename_i z
        subst z
        decide
      · split
        · rename_i z
          subst z
          decide
        · rw [List.map_cons, List.map_cons, List.map_nil, List.sum_cons, List.sum_cons, List.sum_nil]
          unfold mwI
          repeat' split
          all_goals omega
  omega
theorem come_in {m : Bool × Int} (h0 : 0 ≤ m.2) (ht : topI m ≤ 99) : ∀ y ∈ comeI m, 0 ≤ y ∧ y ≤ 99 := by
  intro y hy
  refine ⟨?_, Int.le_trans ((come_top m).2 y hy) ht⟩
  unfold comeI at hy
  split at hy
  · simp at hy
    omega
  · split at hy
    · simp at hy
      omega
    · split at hy
      · simp at hy
        omega
      · simp at hy
        omega
theorem left_in {ns : List Int} {m : Bool × Int} (h : ∀ n ∈ ns, 0 ≤ n ∧ n ≤ 99) : ∀ n ∈ leftI ns m, 0 ≤ n ∧ n ≤ 99 := fun n hn => h n (List.mem_of_mem_erase (List.mem_of_mem_erase hn))
theorem after_mem {ns : List Int} {m : Bool × Int} {y : Int} : y ∈ afterI ns m ↔ y ∈ leftI ns m ∨ y ∈ comeI m := by
  unfold afterI
  rw [(srt_perm _).mem_iff, List.mem_append]
theorem after_len (ns : List Int) (m : Bool × Int) : (afterI ns m).length = (leftI ns m).length + (comeI m).length := by
  unfold afterI
  rw [srt_len, List.length_append]
theorem after_pile {ns : List Int} {m : Bool × Int} (h : ∀ n ∈ ns, 0 ≤ n ∧ n ≤ 99) (hz : ns.length ≤ 200) (h0 : 0 ≤ m.2) (ht : topI m ≤ 99) : pileI (afterI ns m) = true := by
  unfold afterI
  rw [pile_srt, Bool.and_eq_true, List.all_eq_true]
  have := left_len ns m
  have := (come_len m).2
  refine ⟨decide_eq_true (by rw [List.length_append]; omega), fun y hy => ?_⟩
  have hb : 0 ≤ y ∧ y ≤ 99 := by
    rcases List.mem_append.mp hy with hy | hy
    · exact left_in h y hy
    · exact come_in h0 ht y hy
  unfold inI
  rw [decide_eq_true hb.1, decide_eq_true hb.2]
  rfl
/-- the greatest of what comes out tells whether the move goes above the last place -/
theorem after_max {ns : List Int} {m : Bool × Int} (h : ∀ n ∈ ns, 0 ≤ n ∧ n ≤ 99) : ∃ k, (∀ j, j ∈ afterI ns m → (∀ y, y ∈ afterI ns m → y ≤ j) → j = k) ∧ (99 < k ↔ 99 < topI m) := by
  obtain ⟨t1, t2⟩ := come_top m
  have tm : topI m ∈ afterI ns m := after_mem.mpr (.inr t1)
  by_cases hh : ∃ k, k ∈ afterI ns m ∧ ∀ y, y ∈ afterI ns m → y ≤ k
  · obtain ⟨k, k1, k2⟩ := hh
    refine ⟨k, fun j j1 j2 => Int.le_antisymm (k2 j j1) (j2 k k1), fun z => ?_, fun z => Int.lt_of_lt_of_le z (k2 _ tm)⟩
    rcases after_mem.mp k1 with y | y
    · have := left_in h k y
      omega
    · exact Int.lt_of_lt_of_le z (t2 k y)
  · refine ⟨topI m, fun j j1 j2 => absurd ⟨j, j1, j2⟩ hh, Iff.rfl⟩
def lcomeI (m : Bool × Int) : List Int := if m.1 = true then [m.2 + 2] else if m.2 = 0 then [1] else if m.2 = 1 then [2, 0] else [m.2 + 1, m.2 - 2]
theorem lcome_perm (m : Bool × Int) : (lcomeI m).Perm (comeI m) := by
  unfold lcomeI comeI
  split
  · exact .refl _
  · split
    · exact .refl _
    · split
      · exact .swap _ _ _
      · exact .swap _ _ _
def rLParts : List PyData → Out → Prop := fun ds o => ∃ m, ds = [mvD m] ∧ o = .val (.list [.list ([goA m, goB m].map .int), .list ((lcomeI m).map .int)])
def dueD (ns : List Int) (m : Bool × Int) : PyData := if m ∈ movesI ns then .tuple ((afterI ns m).map .int) else .none
def rLAfter : List PyData → Out → Prop := fun ds o => ∃ ns m, ds = [.tuple (ns.map .int), mvD m] ∧ (∀ n ∈ ns, 0 ≤ n ∧ n ≤ 99) ∧ ns.length ≤ 1000 ∧ o = .val (dueD ns m)
def rLMoves : List PyData → Out → Prop := fun ds o => ∃ ns : List Int, ds = [frzD ns] ∧ o = .val (.list ((movesI ns).map mvD))
def rLSame : List PyData → Out → Prop := fun ds o => ∃ ns : List Int, ds = [.tuple (ns.map .int), .tuple (ns.map .int)] ∧ ns.length ≤ 1000 ∧ o = .val (.bool true)
def rLWeigh : List PyData → Out → Prop := fun ds o => ∃ ns : List Int, ds = [.tuple (ns.map .int)] ∧ ns.length ≤ 1000 ∧ (∀ n ∈ ns, 0 ≤ n) ∧ o = .val (.int (weighI ns))
def rLOne : List PyData → Out → Prop := fun ds o => ∃ ns m, ds = [.tuple (ns.map .int), mvD m] ∧ pileI ns = true ∧ ns.length ≤ 126 ∧ 0 ≤ m.2 ∧ m.2 ≤ 99 ∧ o = .val (.bool true)
def rLAll : List PyData → Out → Prop := fun ds o => ∃ ns : List Int, ds = [frzD ns] ∧ pileI ns = true ∧ ns.length ≤ 126 ∧ o = .val (.bool true)
theorem lc_none (F : PyData → PyData) (ds : List PyData) : PyData.list (lcD (fun _ => false) F ds) = .list [] := by
  unfold lcD
  rw [List.filter_eq_nil_iff.mpr (fun _ _ => by decide)]
  rfl
theorem kit_ii : kitB "int" "int" = some true := by decide +kernel
section
variable {σ : L2.St} {G G0 H H0 : Hp} {D : Ends} {tu tz : TS}
/-- for x in ..: a word on the slots; the heap only grows -/
theorem d_forL {wi : TI} {j : Nat} {its : List PyData} (P : Part G0 H0 G H) (h : EvI wi σ G its) (C : L2.St → Prop) (hC : C σ)
    (hs : ∀ (i : Nat) (d : PyData) (x : V) (σ' : L2.St) (G' H' : Hp) (N : L2.St → Hp → Prop), its[i]? = some d → Ex G G' → Part G0 H0 G' H' → Rp G' x d → C σ' → (∀ σ2 H2, C σ2 → Ex H' H2 → N σ2 H2) →
      tu { D with nx := N, ct := N, bk := tz D } (σ'.set j (some x)) H')
    (hd : ∀ (σ' : L2.St) (G' H' : Hp), C σ' → Ex G G' → Part G0 H0 G' H' → tz D σ' H') :
    tSeq (tFor wi (gName j) tu) tz D σ H := by
  refine d_for P h (fun G1 _ σ' H' => C σ' ∧ Part G0 H0 G1 H') (fun G1 H1 p _ _ => ⟨hC, p⟩) (fun G1 i σ' H' _ q => q.2.sub) (fun G1 i x σ' H1 H' hi e1 q y => ?_) fun G1 σ' H' e1 q => hd σ' G1 H' q.1 e1 q.2
  obtain ⟨c, P1⟩ := q
  obtain ⟨G', d, p, e3, r⟩ := y G1 (Ex.refl G1) P1.sub
  exact hs i d x σ' G' H' _ e3 (e1.trans p.ext) (P1.trans p) r c fun σ2 H2 c2 x2 => ⟨c2, P1.on (p.old.trans x2)⟩
end
def toldD (ns : List Int) (m : Bool × Int) : PyData := if m ∈ movesI ns then (if 99 < topI m then .str "TooGreat" else .tuple ((afterI ns m).map .int)) else .str "NoMove"
theorem told_ok {K : PySem.W.Frag} {mg : Str → Option Value} (R : ErrTxt K mg) (ns : List Int) (m : Bool × Int) : Tried R (doneO (R.c 2) (R.c 3) ns m) (toldD ns m) := by
  unfold doneO toldD
  split
  · split
    · exact ⟨3, by decide, rfl, rfl⟩
    · exact rfl
  · exact ⟨2, by decide, rfl, rfl⟩
theorem weighD_ints (ns : List Int) : weighD (.tuple (ns.map .int)) = weighI ns := by
  show weighI ((ns.map PyData.int).map toI) = _
  rw [toI_map]
def pilesL (p : List Int) : List (List Int) := [p, [98, 99], [99, 99], [97, 98, 98], [0, 0, 0, 1, 1, 1], []]
theorem piles_all {p : List Int} (h : pileI p = true) (hl : p.length ≤ 126) : ∀ ns ∈ pilesL p, pileI ns = true ∧ ns.length ≤ 126 := by
  intro ns hn
  unfold pilesL at hn
  simp only [List.mem_cons, List.not_mem_nil, or_false] at hn
  rcases hn with rfl | rfl | rfl | rfl | rfl | rfl
  · exact ⟨h, hl⟩
  all_goals exact ⟨by decide +kernel, by decide⟩
def oddL : List PyData := [.tuple [.str "join"], .tuple [.str "part", .int 0, .int 0], .list [.str "part", .int 0], .tuple [.str "parts", .int 0], .tuple [.none, .int 0], .tuple [.str "join", .int (-1)], .tuple [.str "part", .int 100]] ++
  [.tuple [.str "join", .none], .tuple [.str "part", .str "0"], .none, .str "join", .int 3, .tuple []]
theorem odd_all : ∀ d ∈ oddL, plainD d = true ∧ isMvD d = false := by
  intro d hd
  unfold oddL at hd
  simp only [List.cons_append, List.nil_append, List.mem_cons, List.not_mem_nil, or_false] at hd
  rcases hd with rfl | rfl | rfl | rfl | rfl | rfl | rfl | rfl | rfl | rfl | rfl | rfl | rfl
  all_goals exact ⟨by decide +kernel, by decide +kernel⟩
theorem kit_ll : kitB "list" "list" = some true := by decide +kernel
theorem shaped_err {k : Nat} (h : k < 6) : SeqAt.shaped (.str (errName k)) = true := by
  match k, h with
  | 0, _ => decide +kernel
  | 1, _ => decide +kernel
  | 2, _ => decide +kernel
  | 3, _ => decide +kernel
  | 4, _ => decide +kernel
  | 5, _ => decide +kernel
theorem eqv_err {k : Nat} (h : k < 6) : PyData.eqv (.str (errName k)) (.str (errName k)) = true := by
  match k, h with
  | 0, _ => decide +kernel
  | 1, _ => decide +kernel
  | 2, _ => decide +kernel
  | 3, _ => decide +kernel
  | 4, _ => decide +kernel
  | 5, _ => decide +kernel
theorem done_one {C2 C3 : Addr} : Out.val (.tuple ([1, 1].map .int)) = doneO C2 C3 [0, 0, 1] (false, 0) := by
  unfold doneO
  rw [if_pos (by decide +kernel), if_neg (by decide +kernel)]
  rfl
end Lm

set_option maxHeartbeats 2000000
/-! The row of a number: from the greatest place down, as much as fits. -/
namespace Lm
open PySem PySem.Spec PyProof.Rows L2 Evl
theorem fw_pos : ∀ k : Nat, 1 ≤ fw k
  | 0 => by decide
  | 1 => by decide
  | k + 2 => by
    rw [fw_two]
    have := fw_pos k
    have := fw_pos (k + 1)
    omega
theorem fw_up (k : Nat) : fw k < fw (k + 1) := by
  match k with
  | 0 => decide
  | k + 1 =>
    rw [fw_two]
    have := fw_pos k
    omega
theorem fw_mono {j k : Nat} (h : j ≤ k) : fw j ≤ fw k := by
  induction h with
  | refl => exact Int.le_refl _
  | step _ ih => exact Int.le_trans ih (Int.le_of_lt (fw_up _))
/-- below place k, greatest first -/
def grd : Nat → Int → List Int
  | 0, _ => []
  | k + 1, n => if fw k ≤ n then (k : Int) :: grd k (n - fw k) else grd k n
theorem grd_step {k : Nat} {n : Int} (h : n < fw (k + 1)) (hk : fw k ≤ n) : n - fw k < fw k := by
  match k with
  | 0 =>
    have e0 : fw 0 = 1 := rfl
    have e1 : fw (0 + 1) = 2 := rfl
    omega
  | k + 1 =>
    rw [fw_two] at h
    have := fw_up k
    omega
theorem grd_sum : ∀ {k : Nat} {n : Int}, 0 ≤ n → n < fw k → ((grd k n).map fun i => fw i.toNat).sum = n
  | 0, n, h0, h => by
    have e0 : fw 0 = 1 := rfl
    have : n = 0 := by omega
    subst this
    rfl
  | k + 1, n, h0, h => by
    unfold grd
    by_cases z : fw k ≤ n
    · rw [if_pos z, List.map_cons, List.sum_cons, grd_sum (by omega) (grd_step h z)]
      show fw (Int.toNat (k : Int)) + (n - fw k) = n
      rw [Int.toNat_natCast]
      omega
    · rw [if_neg z]
      exact grd_sum h0 (by omega)
theorem grd_below : ∀ {k : Nat} {n : Int}, ∀ x ∈ grd k n, 0 ≤ x ∧ x < k
  | 0, _, x, h => by cases h
  | k + 1, n, x, h => by
    unfold grd at h
    split at h
    · rcases List.mem_cons.mp h with rfl | h
      · omega
      · have := grd_below x h
        omega
    · have := grd_below x h
      omega
/-- what fits below fw k uses places below k only by number -/
theorem grd_small : ∀ {k j : Nat} {n : Int}, j ≤ k → n < fw j → grd k n = grd j n
  | 0, j, n, hj, h => by
    have : j = 0 := by omega
    subst this
    rfl
  | k + 1, j, n, hj, h => by
    by_cases e : j = k + 1
    · subst e
      rfl
    · have := fw_mono (show j ≤ k by omega)
      rw [show grd (k + 1) n = (if fw k ≤ n then (k : Int) :: grd k (n - fw k) else grd k n) from rfl, if_neg (by omega)]
      exact grd_small (by omega) h
/-- neighbours stand two apart -/
theorem grd_loose : ∀ {k : Nat} {n : Int}, n < fw k → (grd k n).Pairwise fun a b => b + 1 < a
  | 0, _, _ => .nil
  | k + 1, n, h => by
    unfold grd
    by_cases z : fw k ≤ n
    · rw [if_pos z]
      refine List.pairwise_cons.mpr ⟨fun x hx => ?_, grd_loose (grd_step h z)⟩
      match k with
      | 0 => cases hx
      | k + 1 =>
        have hs : n - fw (k + 1) < fw k := by
          rw [fw_two] at h
          omega
        rw [grd_small (Nat.le_succ k) hs] at hx
        have := grd_below x hx
        show x + 1 < ((k + 1 : Nat) : Int)
        omega
    · rw [if_neg z]
      exact grd_loose (by omega)
def rowI (n : Int) : List Int := (grd 100 n).reverse
/-- rows: rising by two at least -/
def Loose (ns : List Int) : Prop := ns.Pairwise fun a b => a + 1 < b
theorem row_loose {n : Int} (h : n < fw 100) : Loose (rowI n) := by
  unfold Loose rowI
  rw [List.pairwise_reverse]
  exact grd_loose h
theorem row_in {n : Int} : ∀ x ∈ rowI n, 0 ≤ x ∧ x ≤ 99 := fun x hx => by
  unfold rowI at hx
  have := grd_below x (List.mem_reverse.mp hx)
  omega
theorem row_worth {n : Int} (h0 : 0 ≤ n) (h : n < fw 100) : worthI (rowI n) = n := by
  unfold worthI rowI
  rw [sum_perm ((List.reverse_perm _).map _)]
  exact grd_sum h0 h
theorem loose_near {ns : List Int} : Loose ns ↔ looseI ns = true := by
  unfold Loose looseI
  induction ns with
  | nil => exact ⟨fun _ => rfl, fun _ => .nil⟩
  | cons a r ih =>
    cases r with
    | nil => exact ⟨fun _ => rfl, fun _ => List.pairwise_singleton _ _⟩
    | cons b r =>
      rw [nx_cons, List.all_cons, Bool.and_eq_true, ← ih]
      constructor
      · intro h
        have h1 := (List.pairwise_cons.mp h).1 b List.mem_cons_self
        exact ⟨decide_eq_true (by show 1 < b - a; omega), (List.pairwise_cons.mp h).2⟩
      · rintro ⟨h1, h2⟩
        have h3 : 1 < b - a := of_decide_eq_true h1
        refine List.pairwise_cons.mpr ⟨fun x hx => ?_, h2⟩
        rcases List.mem_cons.mp hx with rfl | hx
        · omega
        · have := (List.pairwise_cons.mp h2).1 x hx
          omega
theorem loose_pile {ns : List Int} (h : Loose ns) (hi : ∀ n ∈ ns, 0 ≤ n ∧ n ≤ 99) (hz : ns.length ≤ 240) : pileI ns = true := by
  unfold pileI
  rw [decide_eq_true hz, rise_nx (h.imp fun z => by omega), Bool.and_eq_true, Bool.and_eq_true]
  refine ⟨rfl, List.all_eq_true.mpr fun n hn => ?_, rfl⟩
  unfold inI
  rw [decide_eq_true (hi n hn).1, decide_eq_true (hi n hn).2]
  rfl
/-- a loose row below k is worth less than a mark at k, and it is what the greedy way finds; greatest first -/
theorem loose_greedy : ∀ {k : Nat} {ms : List Int}, ms.Pairwise (fun a b => b + 1 < a) → (∀ x ∈ ms, 0 ≤ x ∧ x < k) → (ms.map fun i => fw i.toNat).sum < fw k ∧ 0 ≤ (ms.map fun i => fw i.toNat).sum ∧ grd k (ms.map fun i => fw i.toNat).sum = ms
  | k, [], _, _ => by
    refine ⟨fw_pos k, Int.le_refl 0, ?_⟩
    show grd k 0 = []
    rw [grd_small (j := 0) (Nat.zero_le k) (by decide)]
    rfl
  | k, m :: ms, hp, hb => by
    have bm := hb m List.mem_cons_self
    obtain ⟨j, rfl⟩ : ∃ j : Nat, m = (j : Int) := ⟨m.toNat, by omega⟩
    have jk : j < k := by omega
    have h1 := (List.pairwise_cons.mp hp).1
    have h2 := (List.pairwise_cons.mp hp).2
    rw [List.map_cons, List.sum_cons, show (Int.toNat (j : Int)) = j from Int.toNat_natCast j]
    obtain ⟨a1, a2, a3⟩ := loose_greedy (k := j - 1) h2 (fun x hx => by
      have := h1 x hx
      have := hb x (List.mem_cons_of_mem _ hx)
      omega)
    have lt : fw j + (ms.map fun i => fw i.toNat).sum < fw (j + 1) := by
      match j with
      | 0 =>
        have e0 : fw 0 = 1 := rfl
        have e1 : fw (0 + 1) = 2 := rfl
        have : ms = [] := by
          cases ms with
          | nil => rfl
          | cons x r =>
            have := h1 x List.mem_cons_self
            have := hb x (List.mem_cons_of_mem _ List.mem_cons_self)
            omega
        subst this
        show fw 0 + 0 < fw (0 + 1)
        omega
      | j + 1 =>
        rw [fw_two]
        have a1' : (ms.map fun i => fw i.toNat).sum < fw j := a1
        omega
    refine ⟨Int.lt_of_lt_of_le lt (fw_mono jk), by have := fw_pos j; omega, ?_⟩
    have st : ∀ X, grd (j + 1) X = if fw j ≤ X then (j : Int) :: grd j (X - fw j) else grd j X := fun _ => rfl
    rw [grd_small (j := j + 1) jk lt, st, if_pos (by omega), show fw j + (ms.map fun i => fw i.toNat).sum - fw j = (ms.map fun i => fw i.toNat).sum by omega]
    congr 1
    have hj : (ms.map fun i => fw i.toNat).sum < fw j := Int.lt_of_lt_of_le a1 (fw_mono (Nat.sub_le j 1))
    rw [grd_small (j := j - 1) (Nat.sub_le j 1) a1]
    exact a3
/-- THE ONE ROW: a loose row is the row of what it is worth -/
theorem loose_row {ns : List Int} (h : Loose ns) (hi : ∀ n ∈ ns, 0 ≤ n ∧ n ≤ 99) : worthI ns < fw 100 ∧ rowI (worthI ns) = ns := by
  have hp : ns.reverse.Pairwise fun a b => b + 1 < a := List.pairwise_reverse.mpr h
  obtain ⟨h1, _, h2⟩ := loose_greedy (k := 100) hp fun x hx => by
    have := hi x (List.mem_reverse.mp hx)
    omega
  have e : worthI ns = (ns.reverse.map fun i => fw i.toNat).sum := by
    unfold worthI
    exact (sum_perm ((List.reverse_perm _).map _)).symm
  rw [e]
  refine ⟨h1, ?_⟩
  unfold rowI
  rw [h2, List.reverse_reverse]
/-- a pile without moves is a row -/
theorem no_moves {ns : List Int} (hp : pileI ns = true) : movesI ns = [] ↔ Loose ns := by
  have rise := pile_rise hp
  have hin := pile_in hp
  rw [loose_near]
  unfold looseI
  rw [List.all_eq_true]
  constructor
  · intro h p hpm
    have hle : p.1 ≤ p.2 := by
      have h2 := hp
      unfold pileI at h2
      rw [Bool.and_eq_true, Bool.and_eq_true] at h2
      exact of_decide_eq_true (List.all_eq_true.mp h2.2.2 p hpm)
    have n1 : p.2 ≠ p.1 + 1 := fun z => by
      have hj := (mem_join hin p.1).mpr ((nx_join rise p.1).mp ⟨p, hpm, z, rfl⟩)
      have hm : (true, p.1) ∈ movesI ns := by
        unfold movesI
        exact List.mem_append_left _ (List.mem_map_of_mem hj)
      rw [h] at hm
      cases hm
    have n0 : p.1 ≠ p.2 := fun z => by
      have hj := (mem_dbl hin p.1).mpr ((nx_dbl rise p.1).mp ⟨p, hpm, z, rfl⟩)
      have hm : (false, p.1) ∈ movesI ns := by
        unfold movesI
        exact List.mem_append_right _ (List.mem_map_of_mem hj)
      rw [h] at hm
      cases hm
    exact decide_eq_true (by show 1 < p.2 - p.1; omega)
  · intro h
    rw [List.eq_nil_iff_forall_not_mem]
    rintro ⟨b, k⟩ hm
    unfold movesI at hm
    rw [List.mem_append, List.mem_map, List.mem_map] at hm
    rcases hm with ⟨j, hj, e⟩ | ⟨j, hj, e⟩
    · obtain ⟨p, hp1, z, _⟩ := (nx_join rise j).mpr ((mem_join hin j).mp hj)
      have h1 : 1 < p.2 - p.1 := of_decide_eq_true (h p hp1)
      omega
    · obtain ⟨p, hp1, z, _⟩ := (nx_dbl rise j).mpr ((mem_dbl hin j).mp hj)
      have h1 : 1 < p.2 - p.1 := of_decide_eq_true (h p hp1)
      omega
/-- where moves end is the one row of the worth -/
theorem settled_row {ns : List Int} (hp : pileI ns = true) (h : movesI ns = []) : worthI ns < fw 100 ∧ rowI (worthI ns) = ns := loose_row ((no_moves hp).mp h) (pile_in hp)
theorem weigh_pos (ns : List Int) (h : ∀ n ∈ ns, 0 ≤ n) : 0 ≤ weighI ns := by
  unfold weighI
  induction ns with
  | nil => exact Int.le_refl 0
  | cons a r ih =>
    rw [List.map_cons, List.sum_cons]
    have := ih fun n hn => h n (List.mem_cons_of_mem _ hn)
    have h0 := h a List.mem_cons_self
    have : 0 ≤ mwI a := by
      unfold mwI
      split
      · decide
      · split
        · decide
        · omega
    omega
theorem worth_mem {ns : List Int} {k : Int} (h : k ∈ ns) : fw k.toNat ≤ worthI ns := by
  unfold worthI
  rw [sum_erase (fun i => fw i.toNat) h]
  have : ∀ l : List Int, 0 ≤ (l.map fun i => fw i.toNat).sum := fun l => by
    induction l with
    | nil => exact Int.le_refl 0
    | cons a r ih =>
      rw [List.map_cons, List.sum_cons]
      have := fw_pos a.toNat
      omega
  have := this (ns.erase k)
  show fw k.toNat ≤ fw k.toNat + _
  omega
/-- where the worth is below that of place 100 no move goes above place 99 -/
theorem top_fits {ns : List Int} {m : Bool × Int} (hi : ∀ n ∈ ns, 0 ≤ n ∧ n ≤ 99) (hm : m ∈ movesI ns) (hw : worthI ns < fw 100) : topI m ≤ 99 := by
  obtain ⟨h1, h2⟩ := (mem_moves hi m).mp hm
  have h0 : 0 ≤ m.2 := (hi _ h1).1
  have e := worth_keeps h0 h1 h2
  by_cases z : topI m ≤ 99
  · exact z
  · have hin : topI m ∈ afterI ns m := after_mem.mpr (.inr (come_top m).1)
    have h3 := worth_mem hin
    have h4 := fw_mono (show 100 ≤ (topI m).toNat by omega)
    omega
end Lm

set_option maxHeartbeats 2000000
/-! reversed: of a range, of a list made a tuple. -/
namespace Lm
open PySem PySem.Spec PyProof.Rows L2 Evl RT
def rvD (n : Nat) : List PyData := (List.range n).map fun k : Nat => .int ((n : Int) - 1 - (k : Int))
theorem rvD_len (n : Nat) : (rvD n).length = n := by
  unfold rvD
  rw [List.length_map, List.length_range]
theorem rvD_at {n i : Nat} (h : i < n) : (rvD n)[i]? = some (.int ((n : Int) - 1 - (i : Int))) := by
  unfold rvD
  rw [List.getElem?_map, List.getElem?_range h]
  rfl
section
variable {K : PySem.W.Frag} {σ : L2.St} {G : Hp} {ta : TE} {ds : List PyData}
theorem ei_revR {j : Int} (h : EvD ta σ G (.int j)) (c : 0 ≤ j ∧ j < 2 ^ 62) : EvI (iRevR (tRg1 ta)) σ G (rvD j.toNat) := fun H x R q => h H x _ fun v G1 H1 p r => by
  cases r
  refine ⟨j, rfl, by decide, by decide, by omega, c.2, q _ G1 H1 p ?_⟩
  rw [rvD_len, show (j - 0).toNat = j.toNat by rw [Int.sub_zero]]
  refine ⟨fun i H hi _ => hi, fun H _ => Nat.le_refl _, fun i H y H' hi _ hy Gc c1 c2 => ?_⟩
  obtain ⟨rfl, rfl⟩ := hy
  refine ⟨Gc, _, Part.refl c2, rvD_at hi, ?_⟩
  rw [show (0 : Int) + ((j.toNat : Nat) : Int) - 1 + (i : Int) * -1 = ((j.toNat : Nat) : Int) - 1 - (i : Int) by omega]
  exact .int _
theorem ed_tupRev (h : EvD ta σ G (.list ds)) : EvD (tTupRev K ta) σ G (.tuple ds.reverse) := fun H x Q q =>
  h H x _ fun v G1 H1 p r => by
    cases r with
    | lst a b => exact ⟨_, _, rfl, .inl (.inl (p.sub _ _ a)), fun l n => q _ _ _ (p.add n) (.tup (.inl upd_same) (b.rev.up (Ex.new (fresh_back p.sub n))))⟩
end
end Lm

set_option maxHeartbeats 2000000
/-! A def that is handed in, whatever it promises; a deed tried, whatever it promises. -/
namespace Lm
open PySem PySem.Spec PyProof.Rows L2 Evl
/-- a def of the text, or one that was made while running -/
def FnH (K : PySem.W.Frag) (H : Hp) (f : Addr) : Prop := PySem.W.keepIn K (.ref f) = true ∨ ∃ F, H f = some (NdefX.FnO f F)
theorem FnH.up {K : PySem.W.Frag} {H H' : Hp} {f : Addr} (h : FnH K H f) (e : Ex H H') : FnH K H' f := h.imp id fun ⟨F, q⟩ => ⟨F, e _ _ q⟩
/-- what may be handed in: a promise by positional values -/
abbrev Fr_ (P : Program) (w : World) (K : PySem.W.Frag) (mg : Str → Option Value) (base : Heap) (k : Nat) (f : Addr) (sp : Sp) : Prop := FnR P w K mg base (L2.CX P w) k f sp
/-- the slot i holds it, called with t -/
def tCallP (P : Program) (w : World) (K : PySem.W.Frag) (mg : Str → Option Value) (base : Heap) (k i : Nat) (E : L2.St → XK) (t : TA) : TE := fun σ H Q =>
  ∃ f sp, σ[i]? = some (some (.ref f)) ∧ Fr_ P w K mg base k f sp ∧ ((PySem.W.keepIn K (.ref f) = true ∧ t σ H fun vs H1 => sp vs H1 Q (E σ)) ∨ ∃ F, H f = some (NdefX.FnO f F) ∧ t σ H fun vs H1 => H1 f = some (NdefX.FnO f F) ∧ sp vs H1 Q (E σ))
section
variable {X : Cx} {k i : Nat} {x : Str} {p pos : Pos} {e : Expr} {es : List Expr} {t : TA} {E : L2.St → XK}
theorem run_P {pins : List (Addr × Obj)} {σ : L2.St} {H : Hp} {s : Shared} {Q : VK} {us : List Value} {vs : List V} {f : Addr} {sp : Sp} {E : XK} (F : Fr_ X.prog X.w X.K X.mg X.base k f sp) (hr : Room k X.A) (hx : PassesAt (L2.CX X.prog X.w) X σ E)
    (I : Inv X pins σ H s) (r : Vals vs us) (h : sp vs H Q E) : wpAny (model X.prog X.w) X.A (call (.ref f) us) (EP X pins σ Q) X.xe s := by
  refine wpAny_call (codeAny_mono (F X.A X.stack s H us vs Q E hr I.env0 r h) fun r s' hq => ?_)
  cases r with
  | error e => exact hx pins H s e s' I hq
  | ok fl =>
    cases fl with
    | ret u => exact I.after hq
    | next => exact False.elim hq
    | brk => exact False.elim hq
    | cont => exact False.elim hq
theorem pe_callP (hr : Room k X.A) (hN : X.N[i]? = some x) (hv : Vis X.env.scope x) (hx : ∀ σ, PassesAt (L2.CX X.prog X.w) X σ (E σ)) (ha : PA X (e :: es) t)
    (hdb : (x == ("__debug__" : Str)) = false := by decide) (hcd : (x == ("__classdict__" : Str)) = false := by decide)
    (he : starEach (e :: es) X.env = (false, eval e X.env) :: starEach es X.env := by rfl) (hpl : (backTo pos (starEach es X.env)).any (·.1) = false := by rfl) : PE X (.Call (.Name x p) (e :: es) [] pos) (tCallP X.prog X.w X.K X.mg X.base k i E t) := by
  refine ⟨fun pins s σ H Q I h => ?_⟩
  obtain ⟨f, sp, hs, F, h⟩ := h
  refine wpAny_Call_Name_kw (thn ((pe_var (pos := p) hN hv hdb hcd).run pins s σ H (fun v H1 => v = .ref f ∧ H1 = H) I ⟨.ref f, hs, rfl, rfl⟩) fun u s1 ⟨v, H1, I1, r1, q1⟩ => ?_)
  obtain ⟨rfl, rfl⟩ := q1
  cases r1
  rcases h with ⟨hk, ht⟩ | ⟨Fn, hk, ht⟩
  · refine PySem.W.callWith_K (h₀ := X.base) I.ok.mod.kin hk (thn (ha.run pos pins s1 σ _ _ I1 ht) fun us s2 ⟨vs, H2, I2, r, q⟩ => ⟨I2.kIn, ?_⟩) he hpl
    exact run_P F hr (hx σ) I2 r q
  · refine PySem.W.callWith_F (first := []) (NdefX.fnAt_of I1 hk) (thn (ha.run pos pins s1 σ _ _ I1 ht) fun us s2 ⟨vs, H2, I2, r, h1, q⟩ => ⟨NdefX.fnAt_of I2 h1, ?_⟩) he hpl
    exact run_P F hr (hx σ) I2 r q
end
section
variable {P : Program} {w : World} {K : PySem.W.Frag} {mg : Str → Option Value} {base : Heap} {x : Str} {ps : List Str} {k j i : Nat} {sp : Sp} {f : Addr} {σ : L2.St} {G H : Hp} {tr : TA} {ds : List PyData} {Q : VK} {E : L2.St → XK}
theorem Has.fnr (h : Has P w K mg base x ps k sp) (g : mg x = some (.ref f)) (hk : k ≤ j) : Fr_ P w K mg base j f sp := by
  obtain ⟨f', fd, h1, h2, h3, h4⟩ := h.ex
  rw [g] at h1
  cases h1
  refine ((h4.mono hk).raw h3 .nil).imp fun vs H Q E q => ?_
  rw [List.append_nil]
  exact q
theorem Has.keep (h : Has P w K mg base x ps k sp) (g : mg x = some (.ref f)) : PySem.W.keepIn K (.ref f) = true := by
  obtain ⟨f', fd, h1, h2, h3, h4⟩ := h.ex
  rw [g] at h1
  cases h1
  exact h2
theorem At.kp {st : Stmt} (a : At K mg x ps st f) : PySem.W.keepIn K (.ref f) = true := by
  obtain ⟨fd, F, b⟩ := a.ex
  exact F.kp
/-- the reading: the arguments are data, the heap only grows while they are made -/
theorem callP_of (x : Ex G H) (hs : σ[i]? = some (some (.ref f))) (F : Fr_ P w K mg base k f sp) (hk : FnH K H f) (h : EdA tr σ G ds) (q : ∀ vs G1 H1, Part G H G1 H1 → RpA G1 vs ds → sp vs H1 Q (E σ)) : tCallP P w K mg base k i E tr σ H Q := by
  refine ⟨f, sp, hs, F, ?_⟩
  rcases hk with hk | ⟨Fn, hk⟩
  · exact .inl ⟨hk, h H x _ q⟩
  · exact .inr ⟨Fn, hk, h H x _ fun vs G1 H1 p r => ⟨p.old _ _ hk, q vs G1 H1 p r⟩⟩
end
section
variable {P : Program} {w : World} {K : PySem.W.Frag} {mg : Str → Option Value} {base : Heap} {x : Str} {ps N : List Str} {st : Stmt} {k : Nat} {f : Addr}
/-- a def with any promise -/
theorem has_ofG {sp : Sp} (a : At K mg x ps st f) (S : FnScope N ps (defScope st)) (hl : ∀ vs H Q E, sp vs H Q E → vs.length = ps.length)
    (hbody : ∀ (cdv : Value) (A : Around) (outer : List Env) (s : Shared) (H : Hp) (vs : List V) (Q : VK) (E : XK), Room k (A.deeper (envOfC x (defScope st) s.heap.objs.size f cdv)) →
      (∃ t, PSs (cxOf (L2.CX P w) P w K mg base N x (defScope st) f cdv A outer s H E) (defBody st) t ∧ (sp vs H Q E → t { nx := fun _ H' => Q .non H', rt := Q } (start N vs) H))) : Has P w K mg base x ps (k + 1) sp := by
  obtain ⟨fd, F, b⟩ := a.ex
  refine ⟨f, fd, a.g, F.kp, b, F.okX S hl (fun cdv A outer s H vs Q E hr h => ?_)⟩
  obtain ⟨t, h1, h2⟩ := hbody cdv A outer s H vs Q E hr
  exact ⟨t, h1, h2 h⟩
end
/-! ### a deed tried -/
/-- transparent: what the deed promises, its refusals told by name -/
def spT {K : PySem.W.Frag} {mg : Str → Option Value} (P : Program) (w : World) (base : Heap) (R : ErrTxt K mg) (k : Nat) : Sp := fun vs H Q E => ∃ f sp a xs, vs = [.ref f, .ref a] ∧ H a = some (.lst xs) ∧ (xs.length = 1 ∨ xs.length = 2) ∧ Fr_ P w K mg base k f sp ∧ FnH K H f ∧
  ∀ H1, Ex H H1 → sp xs H1 (fun v H' => ∀ H2, Ex H' H2 → Q v H2) fun cls d H' => ∃ i, i < 6 ∧ cls = .ref (R.c i) ∧ d = none ∧ ∀ H2, Ex H' H2 → Q (.str (errName i)) H2
section
variable {P : Program} {w : World} {K : PySem.W.Frag} {mg : Str → Option Value} {base : Heap} {R : ErrTxt K mg} {k : Nat} {σ : L2.St} {G : Hp} {tf tl : TE} {f : Addr} {rel : List PyData → Out → Prop} {ds : List PyData} {o : Out} {d : PyData}
/-- .. of a deed over data -/
theorem ed_tried (hf : EvD tf σ G (opq f)) (hl : EvD tl σ G (.list ds)) (hz : ds.length = 1 ∨ ds.length = 2) (F : Fr_ P w K mg base k f (spO rel)) (hk : PySem.W.keepIn K (.ref f) = true) (hr : rel ds o) (ht : Tried R o d) :
    EvD (tCall (spT P w base R k) [] E0 (tCons tf (tCons tl tNil))) σ G d := fun H x Q q =>
  hf H x _ fun v G1 H1 p r => (hl.mono p.ext) H1 p.sub _ fun u G2 H2 p2 r2 => by
    cases r
    cases r2 with
    | @lst a xs _ e b =>
      have pz := p.trans p2
      refine ⟨f, spO rel, a, xs, rfl, pz.sub _ _ e, by rw [b.len]; exact hz, F, .inl hk, fun H3 x3 => ⟨G2, ds, o, pz.sub.trans x3, b, hr, ?_⟩⟩
      cases o with
      | val y =>
        have e2 : d = y := ht
        subst e2
        exact fun v G' H' p4 r4 H5 x5 => q v G' H5 (((pz.on x3).trans p4).on x5) r4
      | err C =>
        obtain ⟨i, hi, hC, rfl⟩ := ht
        exact fun H' x4 => ⟨i, hi, by rw [hC], rfl, fun H5 x5 => q _ G2 H5 (pz.on (x3.trans (x4.trans x5))) (.str _)⟩
end
section
variable {K : PySem.W.Frag} {mg : Str → Option Value}
/-- as much as it promises, for whoever wants less -/
def upS (sp : Sp) : Sp := fun vs H Q E => ∃ (Q0 : VK) (E0 : XK), sp vs H Q0 E0 ∧ (∀ v H', Q0 v H' → Q v H') ∧ ∀ c d H', E0 c d H' → E c d H'
theorem fr_up {P : Program} {w : World} {base : Heap} {k : Nat} {f : Addr} {sp : Sp} (F : Fr_ P w K mg base k f sp) : Fr_ P w K mg base k f (upS sp) := fun A outer s H us vs Q E hr e0 r ⟨Q0, E0, h, h1, h2⟩ => by
  refine codeAny_mono (F A outer s H us vs Q0 E0 hr e0 r h) fun r s' hq => ?_
  cases r with
  | error e =>
    obtain ⟨a, B, H', cls, d, z1, z2, z3, z4, z5, z6, z7, z8⟩ := hq
    exact ⟨a, B, H', cls, d, z1, z2, z3, z4, z5, z6, z7, h2 _ _ _ z8⟩
  | ok fl =>
    cases fl with
    | ret u =>
      obtain ⟨v, H', z1, z2, z3, z4, z5, z6⟩ := hq
      exact ⟨v, H', z1, z2, z3, z4, z5, h1 _ _ z6⟩
    | next => exact hq
    | brk => exact hq
    | cont => exact hq
theorem Has.up {P : Program} {w : World} {base : Heap} {k : Nat} {x : Str} {ps : List Str} {sp : Sp} (h : Has P w K mg base x ps k sp) : Has P w K mg base x ps k (upS sp) := by
  obtain ⟨f, fd, h1, h2, h3, h4⟩ := h.ex
  refine ⟨f, fd, h1, h2, h3, ⟨fun vs H Q E ⟨Q0, E0, q, _⟩ => h4.len _ _ _ _ q, fun A outer s H args us vs Q E hr e0 hb r ⟨Q0, E0, q, k1, k2⟩ => ?_⟩⟩
  refine codeAny_mono (h4.run A outer s H args us vs Q0 E0 hr e0 hb r q) fun r s' hq => ?_
  cases r with
  | error e =>
    obtain ⟨a, B, H', cls, d, z1, z2, z3, z4, z5, z6, z7, z8⟩ := hq
    exact ⟨a, B, H', cls, d, z1, z2, z3, z4, z5, z6, z7, k2 _ _ _ z8⟩
  | ok fl =>
    cases fl with
    | ret u =>
      obtain ⟨v, H', z1, z2, z3, z4, z5, z6⟩ := hq
      exact ⟨v, H', z1, z2, z3, z4, z5, k1 _ _ z6⟩
    | next => exact hq
    | brk => exact hq
    | cont => exact hq
/-- the call in a try that keeps the error: its answer to slot i, an error to slot j by way of slot e -/
theorem d_tryP {R : ErrTxt K mg} {P : Program} {w : World} {base : Heap} {i j e n k : Nat} {tr : TA} {D : Ends} {σ : L2.St} {H : Hp} {f : Addr} {sp : Sp} {xs : List V} {Q : VK} {E : XK} (hf : σ[n]? = some (some (.ref f))) (F : Fr_ P w K mg base k f sp) (hk : FnH K H f)
    (h : ∀ Q : List V → Hp → Prop, (∀ H1, Ex H H1 → Q xs H1) → tr σ H Q) (hs : ∀ v : V, (σ.set e (some v))[e]? = some (some v)) (q : ∀ H1, Ex H H1 → sp xs H1 Q E) (k1 : ∀ v H', Q v H' → D.nx (σ.set i (some v)) H')
    (k2 : ∀ c d H', E c d H' → ∃ k, k < 6 ∧ c = .ref (R.c k) ∧ d = none ∧ ∀ a H2, Ex H' H2 → H2 a = some (LmExc.ErrO (R.c k) a) → D.nx (((σ.set e (some (.ref a))).set j (some (.ref a))).set e none) H2) :
    tAsg (tCallP P w K mg base k n (WE (LmExc.wHeld K (.ref R.M) e (fun _ => tAsg (tVar e) (gName j)) D)) tr) (gName i) D σ H := by
  refine ⟨f, upS sp, hf, fr_up F, ?_⟩
  have key : ∀ H1, Ex H H1 → upS sp xs H1 (fun v H' => gName i v σ H' D.nx) (WE (LmExc.wHeld K (.ref R.M) e (fun _ => tAsg (tVar e) (gName j)) D) σ) := fun H1 x1 => by
    refine ⟨Q, E, q H1 x1, k1, fun c d H' z => ?_⟩
    obtain ⟨k, hk, rfl, rfl, y⟩ := k2 c d H' z
    exact ⟨_, rfl, rfl, R.exm k hk, fun a ha => ⟨.ref a, hs _, y a _ (Ex.new ha) upd_same⟩⟩
  rcases hk with hk | ⟨Fn, hk⟩
  · exact .inl ⟨hk, h _ key⟩
  · exact .inr ⟨Fn, hk, h _ fun H1 x1 => ⟨x1 _ _ hk, key H1 x1⟩⟩
theorem tried_end {R : ErrTxt K mg} {P : Program} {w : World} {base : Heap} {k : Nat} {vs : List V} {H : Hp} {Q : VK} {E : XK} {N : List Str} (hN : start N vs = vs.map some ++ [none, none, none]) (h : spT P w base R k vs H Q E) :
    tSeq (tAsg (tC .non) (gName 2)) (tSeq (tAsg (tC .non) (gName 3)) (tSeq (fun D σ H => (fun W => tIfS (tTest (tOp (rEqD K) (tCB (rLenS K) (tCons (tVar 1) tNil)) (tC (.int 1))))
        (tAsg (tCallP P w K mg base k 0 (WE W) (tCons (tOp (rIxL K) (tVar 1) (tC (.int 0))) tNil)) (gName 2))
        (tAsg (tCallP P w K mg base k 0 (WE W) (tCons (tOp (rIxL K) (tVar 1) (tC (.int 0))) (tCons (tOp (rIxL K) (tVar 1) (tC (.int 1))) tNil))) (gName 2))) (LmExc.wHeld K (.ref R.M) 4 (fun _ => tAsg (tVar 4) (gName 3)) D) D σ H)
      (tSeq (tIfS (tTest (tOp rIsN (tVar 3) (tC .non))) (tRet (tVar 2)) tNext) (tRet (tCall (spH (rWord R)) [] E0 (tCons (tVar 3) tNil)))))) { nx := fun _ H' => Q .non H', rt := Q } (start N vs) H := by
  obtain ⟨f, sp, a, xs, rfl, ha, hl, F, hk, hsp⟩ := h
  rw [hN]
  refine d_asgS (Part.refl (Ex.refl H)) ed_non rfl fun H1 P1 x1 => ?_
  refine d_asgS P1 ed_non rfl fun H2 P2 x2 => ?_
  have x12 := x1.trans x2
  have ha2 := x12 _ _ ha
  have le : Ev (tCB (rLenS K) (tCons (tVar 1) tNil)) [some (.ref f), some (.ref a), some .non, some .non, none] H2 (.int (xs.length : Int)) := ev_len (ev_var rfl) (sq_of ha2)
  have lt := et_of' (ed_eq (K := K) (ofEv (d := .int (xs.length : Int)) le rfl) (ed_int (i := 1)) (shaped_int _) (shaped_int _))
  refine lt H2 (Ex.refl H2) _ fun H3 x3 => ?_
  have ha3 := x3 _ _ ha2
  have k1 : ∀ (v : V) (H' : Hp), (∀ H2, Ex H' H2 → Q v H2) → tSeq (tIfS (tTest (tOp rIsN (tVar 3) (tC .non))) (tRet (tVar 2)) tNext) (tRet (tCall (spH (rWord R)) [] E0 (tCons (tVar 3) tNil))) { nx := fun _ H' => Q .non H', rt := Q } [some (.ref f), some (.ref a), some v, some .non, none] H' := fun v H' q => by
    refine et_of' (ed_isN1 (d := .none) (ed_var rfl .non)) H' (Ex.refl H') _ fun H4 x4 => ?_
    exact ⟨v, rfl, q H4 x4⟩
  have k2 : ∀ (c : Value) (d : Option Addr) (H' : Hp), (∃ i, i < 6 ∧ c = .ref (R.c i) ∧ d = none ∧ ∀ H2, Ex H' H2 → Q (.str (errName i)) H2) → ∃ k, k < 6 ∧ c = .ref (R.c k) ∧ d = none ∧ ∀ b H2, Ex H' H2 → H2 b = some (LmExc.ErrO (R.c k) b) →
      tSeq (tIfS (tTest (tOp rIsN (tVar 3) (tC .non))) (tRet (tVar 2)) tNext) (tRet (tCall (spH (rWord R)) [] E0 (tCons (tVar 3) tNil))) { nx := fun _ H' => Q .non H', rt := Q } [some (.ref f), some (.ref a), some .non, some (.ref b), none] H2 := fun c d H' ⟨i, hi, hc, hd, q⟩ => by
    refine ⟨i, hi, hc, hd, fun b H4 x4 hb => ?_⟩
    refine et_of' (ed_isN1 (d := opq b) (ed_var rfl (.obj b))) H4 (Ex.refl H4) _ fun H5 x5 => ?_
    have ec : EvD (tCall (spH (rWord R)) [] E0 (tCons (tVar 3) tNil)) [some (.ref f), some (.ref a), some .non, some (.ref b), none] H5 (.str (errName i)) := ed_callH (ea_cons (ed_var rfl (.obj b)) ea_nil) fun G'' e'' => ⟨b, i, hi, rfl, e'' _ _ (x5 _ _ hb), rfl⟩
    exact (ec.ev rfl) H5 (Ex.refl H5) _ fun H6 x6 => q H6 (x4.trans (x5.trans x6))
  have ix : ∀ (j : Nat) (x : V), xs[j]? = some x → ∀ (H' : Hp), Ex H3 H' → ∀ Q : VK, (∀ H2, Ex H' H2 → Q x H2) → tOp (rIxL K) (tVar 1) (tC (.int (j : Int))) [some (.ref f), some (.ref a), some .non, some .non, none] H' Q := fun j x e H' x' Q q =>
    ⟨.ref a, rfl, ⟨a, xs, (j : Int), x, rfl, rfl, sq_of (x' _ _ ha3), atI_nat e, q H' (Ex.refl H')⟩⟩
  have sp3 : ∀ H', Ex H3 H' → sp xs H' (fun v H' => ∀ H2, Ex H' H2 → Q v H2) fun cls d H' => ∃ i, i < 6 ∧ cls = .ref (R.c i) ∧ d = none ∧ ∀ H2, Ex H' H2 → Q (.str (errName i)) H2 := fun H' x' => hsp H' (x12.trans (x3.trans x'))
  by_cases h1 : xs.length = 1
  · obtain ⟨y, rfl⟩ := List.length_eq_one_iff.mp h1
    have eb : PyData.eqv (.int (([y] : List V).length : Int)) (.int 1) = true := rfl
    rw [eb, if_pos rfl]
    exact d_tryP (R := R) rfl F (hk.up (x12.trans x3)) (fun Q q => ix 0 y rfl H3 (Ex.refl H3) _ fun H4 x4 => q H4 x4) (fun _ => rfl) sp3 k1 k2
  · have h2 : xs.length = 2 := hl.elim (fun z => absurd z h1) id
    obtain ⟨y, z, rfl⟩ : ∃ y z, xs = [y, z] := match xs, h2 with
      | [a, b], _ => ⟨a, b, rfl⟩
    have eb : PyData.eqv (.int (([y, z] : List V).length : Int)) (.int 1) = false := rfl
    rw [eb, if_neg (by decide)]
    exact d_tryP (R := R) rfl F (hk.up (x12.trans x3)) (fun Q q => ix 0 y rfl H3 (Ex.refl H3) _ fun H4 x4 => ix 1 z rfl H4 x4 _ fun H5 x5 => q H5 (x4.trans x5)) (fun _ => rfl) sp3 k1 k2
end
end Lm

set_option maxHeartbeats 2000000
/-! The parts that moves.py is made of; a new list handed on. -/
namespace Lm
open PySem PySem.Spec PyProof.Rows L2 Evl
def rMovesT : List PyData → Out → Prop := fun ds o => ∃ ns : List Int, ds = [.tuple (ns.map .int)] ∧ pileI ns = true ∧ ns.length ≤ 126 ∧ o = .val (.list ((movesI ns).map mvD))
def rFits : List PyData → Out → Prop := fun ds o => ∃ m, ds = [mvD m] ∧ o = .val (.bool (decide (topI m ≤ 99)))
def rBehind : List PyData → Out → Prop := fun ds o => ∃ (ns : List Int) (m : Bool × Int), ds = [.tuple (ns.map .int), mvD m] ∧ ns.length ≤ 1000 ∧ goA m ∈ ns ∧ goB m ∈ ns.erase (goA m) ∧ o = .val (.tuple ((afterI ns m).map .int))
section
variable {σ : L2.St} {G G0 H H0 : Hp} {tr : TA} {D : Ends} {d : PyData} {ds : List PyData} {E : XK} {r : List PyData → Out → Prop}
/-- return f(..), a new list -/
theorem d_retN (P : Part G0 H0 G H) (h : EdA tr σ G ds) (hr : r ds (.val d)) (q : WantN (.val d) G0 H0 D.rt E) : tRet (tCall (spN r) [] E tr) D σ H :=
  h H P.sub _ fun vs G1 H1 p rs => ⟨G1, ds, .val d, p.sub, by rw [List.append_nil]; exact rs, hr, fun a G' H' p2 rp n => q a G' H' (P.trans (p.trans p2)) rp (fresh_back (P.ext.trans p.ext) n)⟩
end
theorem known_str : LmType.Known "str" := by
  unfold LmType.Known
  simp
theorem tyD_str {d : PyData} (h : tyD d = some "str") : ∃ s, d = .str s := by
  cases d with
  | str s => exact ⟨s, rfl⟩
  | dict l => cases l <;> simp [tyD] at h
  | _ => simp [tyD] at h
theorem not_mv {a b : PyData} {S : String} (h : tyD a = some S) (n : S ≠ "str") : isMvD (.tuple [a, b]) = false := by
  cases a with
  | str s => exact absurd (Option.some.inj h).symm n
  | _ => rfl
theorem mv_tuple {d : PyData} {S : String} (h : tyD d = some S) (n : S ≠ "tuple") : isMvD d = false := by
  cases d with
  | tuple l => exact absurd (Option.some.inj h).symm n
  | _ => rfl
theorem mv_two {l : List PyData} (h : l.length ≠ 2) : isMvD (.tuple l) = false := by
  match l, h with
  | [], _ => rfl
  | [a], _ => cases a <;> rfl
  | [a, b], h => exact absurd rfl h
  | a :: b :: c :: r, _ => cases a <;> rfl
theorem not_le99 (k : Int) : (!decide (k ≤ 99)) = decide (99 < k) := by
  by_cases h : k ≤ 99
  · rw [decide_eq_true h, decide_eq_false (by omega)]; rfl
  · rw [decide_eq_false h, decide_eq_true (by omega)]; rfl
end Lm

set_option maxHeartbeats 2000000
/-! Marks taken out of a pile and put in. -/
namespace Lm
open PySem PySem.Spec PyProof.Rows L2 Evl
def offI (ns gone : List Int) : List Int := gone.foldl List.erase ns
def exchI (ns gone come : List Int) : List Int := srt (offI ns gone ++ come)
/-- they are there, one behind the other -/
def Gone (ns gone : List Int) : Prop := ∀ (i : Nat) (k : Int), gone[i]? = some k → k ∈ offI ns (gone.take i)
theorem off_snoc {ns gone : List Int} {i : Nat} {k : Int} (h : gone[i]? = some k) : offI ns (gone.take (i + 1)) = (offI ns (gone.take i)).erase k := by
  unfold offI
  rw [List.take_add_one, h, List.foldl_append]
  rfl
theorem off_len (ns : List Int) : ∀ gone : List Int, (offI ns gone).length ≤ ns.length := fun gone => by
  induction gone generalizing ns with
  | nil => exact Nat.le_refl _
  | cons g gone ih => exact Nat.le_trans (ih (ns.erase g)) (erase_len ns g)
theorem gone_one {ns : List Int} {a : Int} (h : a ∈ ns) : Gone ns [a] := fun i k e => by
  match i, e with
  | 0, e =>
    cases e
    exact h
  | i + 1, e => simp at e
theorem gone_two {ns : List Int} {a b : Int} (h : a ∈ ns) (h2 : b ∈ ns.erase a) : Gone ns [a, b] := fun i k e => by
  match i, e with
  | 0, e =>
    cases e
    exact h
  | 1, e =>
    cases e
    exact h2
  | i + 2, e => simp at e
def rExch : List PyData → Out → Prop := fun ds o => ∃ ns gone come : List Int, ds = [.tuple (ns.map .int), .list (gone.map .int), .list (come.map .int)] ∧ ns.length ≤ 1000 ∧ come.length ≤ 1000 ∧ Gone ns gone ∧ o = .val (.tuple ((exchI ns gone come).map .int))
end Lm

set_option maxHeartbeats 2000000
/-! A list of one's own, of any data; walks of a script; ranges down. -/
namespace Lm
open PySem PySem.Spec PyProof.Rows L2 Evl
section
variable {K : PySem.W.Frag} {σ : L2.St} {G G0 H H0 : Hp} {ta tb tc te : TE} {tr : TA} {D : Ends} {tu tz : TS} {d : PyData} {ds es : List PyData} {ns : List Int}
theorem ed_iI {C : Int → Int → Prop} {g : Int → Int → Int} {i j : Int} (h : EvD ta σ G (.int i)) (k : EvD tb σ G (.int j)) (c : C i j) : EvD (tOp (rI C fun i j => .int (g i j)) ta tb) σ G (.int (g i j)) := ed_iC h k c rfl
theorem ed_0I {g : Int → Int → Int} {i j : Int} (h : EvD ta σ G (.int i)) (k : EvD tb σ G (.int j)) : EvD (tOp (rI0 fun i j => .int (g i j)) ta tb) σ G (.int (g i j)) := ed_i0 h k rfl
theorem ed_0B {g : Int → Int → Bool} {i j : Int} (h : EvD ta σ G (.int i)) (k : EvD tb σ G (.int j)) : EvD (tOp (rI0 fun i j => .bl (g i j)) ta tb) σ G (.bool (g i j)) := ed_i0 h k rfl
/-- x = [e, ..]: a list of one's own -/
theorem d_newL {i : Nat} (P : Part G0 H0 G H) (h : EdA tr σ G ds) (hl : ds.length ≤ 100000) (k : ∀ l xs G' H', Part G0 H0 G' H' → Ex G G' → RpA G' xs ds → H' l = some (.lst xs) → G' l = none → H0 l = none → tz D (σ.set i (some (.ref l))) H') :
    tSeq (tAsg (tLst tr) (gName i)) tz D σ H := h H P.sub _ fun xs G1 H1 p r => by
  refine ⟨by rw [r.len]; exact sz_of hl, fun l n => ?_⟩
  have pz := P.trans p
  exact k l xs G1 _ (pz.on (Ex.new n)) p.ext r upd_same (fresh_back pz.sub n) (fresh_back pz.old n)
/-- .. where the step's own part is told -/
theorem d_asgP {i : Nat} (P : Part G0 H0 G H) (h : EvD te σ G d) (k : ∀ v G' H', Part G H G' H' → Rp G' v d → tz D (σ.set i (some v)) H') : tSeq (tAsg te (gName i)) tz D σ H :=
  h H P.sub _ fun v G' H' p r => k v G' H' p r
theorem d_asg1S {v : V} {i : Nat} (P : Part G0 H0 G H) (h : EvD te σ G d) (e : sc d = some v) (k : ∀ H', Part G0 H0 G H' → Ex H H' → D.nx (σ.set i (some v)) H') : tAsg te (gName i) D σ H :=
  (h.ev e) H P.sub _ fun H' x => k H' (P.on x) x
/-- x.append(e) -/
theorem s_appD {l : Addr} {xs : List V} (P : Part G0 H0 G H) (gl : G l = none) (h0 : H0 l = none) (hl : H l = some (.lst xs)) (ha : Ev ta σ H (.ref l)) (h : EvD te σ G d) (hz : xs.length < 100000)
    (q : ∀ v G' H', Part G0 H0 G' H' → Ex G G' → Rp G' v d → G' l = none → H' l = some (.lst (xs ++ [v])) → D.nx σ H') : tDrop (tBM K "list" rAppend ta (tCons te tNil)) D σ H := ha H (Ex.refl H) _ fun H1 e1 => by
  refine ⟨Or.inl ⟨rfl, xs, sq_of (e1 l _ hl)⟩, h H1 (P.sub.trans e1) _ fun v G2 H2 p2 r2 => ⟨l, xs, v, rfl, rfl, p2.old _ _ (e1 l _ hl), sz_lt hz, ?_⟩⟩
  have pz : Part G0 H0 G2 H2 := (P.on e1).trans p2
  have g2 : G2 l = none := p2.off gl (e1 l _ hl)
  exact q v G2 _ (pz.mut g2 h0) p2.ext r2 g2 upd_same
/-- enumerate of a list that is only read -/
theorem ei_enumS {a : Addr} (h : Ev te σ G (.ref a)) (hS : SqL K G a (ns.map V.int)) : EvI (iEnum K (tCons te tNil)) σ G (enD (ns.map .int)) := fun H x R q => h H x _ fun H1 x1 =>
  ⟨a, _, rfl, ex_l (x.trans x1) hS, q _ G H1 ((Part.refl x).on x1) (enum_walk (fun H k => ex_l k hS) (RpA.ofInts ns))⟩
theorem ei_rng3 {i j : Int} (h : EvD ta σ G (.int i)) (k : EvD tb σ G (.int j)) (l : EvD tc σ G (.int (-1))) (c : -(2 ^ 62) ≤ i ∧ i < 2 ^ 62 ∧ -(2 ^ 62) ≤ j ∧ j < 2 ^ 62) (e : i = ((i - j).toNat : Nat) - 1) : EvI (iRng3 (tCons ta (tCons tb (tCons tc tNil)))) σ G (rvD (i - j).toNat) := fun H x R q =>
  h H x _ fun v G1 H1 p r => (k.mono p.ext) H1 p.sub _ fun w G2 H2 p2 r2 => (l.mono (p.ext.trans p2.ext)) H2 p2.sub _ fun u G3 H3 p3 r3 => by
    cases r
    cases r2
    cases r3
    refine ⟨i, j, -1, _, rfl, RgC.neg c.1 c.2.1 c.2.2.1 c.2.2.2, q _ G3 H3 (p.trans (p2.trans p3)) ?_⟩
    rw [rvD_len]
    refine ⟨fun i H hi _ => hi, fun H _ => Nat.le_refl _, fun m H y H' hi _ hy Gc c1 c2 => ?_⟩
    obtain ⟨rfl, rfl⟩ := hy
    refine ⟨Gc, _, Part.refl c2, rvD_at hi, ?_⟩
    rw [show i + (m : Int) * -1 = (((i - j).toNat : Nat) : Int) - 1 - (m : Int) by omega]
    exact .int _
/-- a name op= a number -/
theorem d_augI {i : Nat} {f : Int → Int → Int} {a b : Int} (P : Part G0 H0 G H) (hx : σ[i]? = some (some (.int a))) (h : EvD te σ G (.int b)) (k : ∀ H', Part G0 H0 G H' → Ex H H' → tz D (σ.set i (some (.int (f a b)))) H') : tSeq (tAug i te (ipI f)) tz D σ H :=
  ⟨_, hx, (h.ev rfl) H P.sub _ fun H1 x1 => ⟨a, b, rfl, rfl, k H1 (P.on x1) x1⟩⟩
theorem d_augI1 {i : Nat} {f : Int → Int → Int} {a b : Int} (P : Part G0 H0 G H) (hx : σ[i]? = some (some (.int a))) (h : EvD te σ G (.int b)) (k : ∀ H', Part G0 H0 G H' → Ex H H' → D.nx (σ.set i (some (.int (f a b)))) H') : tAug i te (ipI f) D σ H :=
  ⟨_, hx, (h.ev rfl) H P.sub _ fun H1 x1 => ⟨a, b, rfl, rfl, k H1 (P.on x1) x1⟩⟩
end
end Lm

set_option maxHeartbeats 2000000
/-! Rows of numbers. -/
namespace Lm
open PySem PySem.Spec PyProof.Rows L2 Evl
def fpI : Nat → Int × Int
  | 0 => (1, 2)
  | k + 1 => ((fpI k).2, (fpI k).1 + (fpI k).2)
theorem fp_eq : ∀ k : Nat, fpI k = (fw k, fw (k + 1))
  | 0 => rfl
  | k + 1 => by
    show ((fpI k).2, (fpI k).1 + (fpI k).2) = (fw (k + 1), fw (k + 2))
    rw [fp_eq k, fw_two]
theorem fw100 : fw 100 = 927372692193078999176 := by
  have h : (fpI 100).1 = 927372692193078999176 := by decide +kernel
  rw [fp_eq] at h
  exact h
/-- the greedy way, turn by turn -/
theorem grd_turn (k : Nat) (n : Int) : grd (k + 1) n = if fw k ≤ n then (k : Int) :: grd k (n - fw k) else grd k n := rfl
theorem grd_rows (n : Int) : (grd 100 n).reverse = rowI n := rfl
theorem grd_len : ∀ (k : Nat) (n : Int), (grd k n).length ≤ k
  | 0, _ => Nat.le_refl 0
  | k + 1, n => by
    rw [grd_turn]
    split
    · have := grd_len k (n - fw k)
      rw [List.length_cons]
      omega
    · have := grd_len k n
      omega
theorem row_len (n : Int) : (rowI n).length ≤ 100 := by
  unfold rowI
  rw [List.length_reverse]
  exact grd_len 100 n
/-- the greedy way goes down -/
theorem grd_down : ∀ (k : Nat) (n : Int), (grd k n).Pairwise fun a b => b < a
  | 0, _ => .nil
  | k + 1, n => by
    rw [grd_turn]
    split
    · exact List.pairwise_cons.mpr ⟨fun x hx => by have := grd_below x hx; omega, grd_down k _⟩
    · exact grd_down k n
theorem row_rise (n : Int) : (rowI n).Pairwise (· ≤ ·) := by
  unfold rowI
  rw [List.pairwise_reverse]
  exact (grd_down 100 n).imp fun h => Int.le_of_lt h
theorem row_srt (n : Int) : srt (grd 100 n) = rowI n := (srt_one (List.reverse_perm _) (row_rise n)).symm
def rLRow : List PyData → Out → Prop := fun ds o => ∃ n : Int, ds = [.int n] ∧ o = .val (.tuple ((rowI n).map .int))
/-- what row_of tells -/
def rowO (C1 C3 : Addr) : PyData → Out
  | .int n => if n < 0 then .err C1 else if fw 100 ≤ n then .err C3 else .val (.tuple ((rowI n).map .int))
  | _ => .err C1
def rRowOf (C1 C3 : Addr) : List PyData → Out → Prop := fun ds o => ∃ d, ds = [d] ∧ (tyD d).isSome = true ∧ o = rowO C1 C3 d
def rNumberOf (C1 : Addr) : List PyData → Out → Prop := fun ds o => ∃ d, ds = [d] ∧ plainD d = true ∧ o = if isRowD d = true then .val (.int (worthD d)) else .err C1
theorem row_isRow {n : Int} (h : n < fw 100) : isRowD (.tuple ((rowI n).map .int)) = true := by
  rw [isRow_ints, loose_pile (row_loose h) row_in (by have := row_len n; omega), loose_near.mp (row_loose h)]
  rfl
theorem isRow_pile {d : PyData} (h : isRowD d = true) : isPileD d = true := by
  unfold isRowD at h
  rw [Bool.and_eq_true] at h
  exact h.1
def numI (n : Int) : Int := if n % 4 = 0 then n / 4 % 300 else if n % 4 = 1 then fw (n / 4 % 101).toNat + n / 404 % 5 - 2 else n / 4 * 48271 * 48271 % (if n % 4 % 2 = 0 then 10 ^ 21 else 10 ^ 12)
def rLNum : List PyData → Out → Prop := fun ds o => ∃ n : Int, ds = [.int n] ∧ 0 ≤ n ∧ n < 2 ^ 40 ∧ o = .val (.int (numI n))
def rLGoodN : List PyData → Out → Prop := fun ds o => ∃ n : Int, ds = [.int n] ∧ o = .val (.bool true)
/-- what row_of tells when tried -/
def rowT (n : Int) : PyData := if n < 0 then .str "NoRow" else if fw 100 ≤ n then .str "TooGreat" else .tuple ((rowI n).map .int)
theorem row_tried {K : PySem.W.Frag} {mg : Str → Option Value} (R : ErrTxt K mg) (n : Int) : Tried R (rowO (R.c 1) (R.c 3) (.int n)) (rowT n) := by
  show Tried R (if n < 0 then .err (R.c 1) else if fw 100 ≤ n then .err (R.c 3) else .val (.tuple ((rowI n).map .int))) (rowT n)
  unfold rowT
  split
  · exact ⟨1, by decide, rfl, rfl⟩
  · split
    · exact ⟨3, by decide, rfl, rfl⟩
    · exact rfl
theorem eqv_intI (i j : Int) : PyData.eqv (.int i) (.int j) = decide (i = j) := by simp [PyData.eqv]; exact Bool.eq_iff_iff.mpr (by rw [beq_iff_eq, decide_eq_true_eq])
end Lm

set_option maxHeartbeats 2000000
/-! max with a default; rows compared place by place; numbers drawn, put in order. -/
namespace Lm
open PySem PySem.Spec PyProof.Rows L2 Evl
/-- max(l, default=d) -/
def rMaxDf (K : PySem.W.Frag) : List V → List V → Hp → VK → Prop := fun vs zs H Q => ∃ (a : Addr) (ns : List Int) (d : Int), vs = [V.ref a] ∧ zs = [.int d] ∧ SqL K H a (ns.map V.int) ∧ (ns = [] → Q (.int d) H) ∧ ∀ m, m ∈ ns → (∀ y, y ∈ ns → y ≤ m) → Q (.int m) H
section
variable {X : Cx}
theorem cr_maxDf (hc : X.calm = true) (hu : X.A.units + 65 < cLine) : CallRK X (.builtin "max") ["default"] (rMaxDf X.K) := by
  rintro pins s σ H vs zs us ws Q I r rz ⟨a, ns, d, rfl, rfl, hs, q0, q⟩
  obtain ⟨its, rv, hl, _⟩ := I.list hs
  rw [Vals.ref1 r]
  obtain ⟨u, rfl, t, rfl⟩ := rz.one
  show wpAny _ _ (call (.builtin "max") [.ref a] [(Str.ofString "default", .int d t)]) _ _ _
  refine PySem.W.max_list_datum_default (xs := ns) (I.ok.hd hc) hl.isList ⟨[], LmCnt.readsAll_ints rv⟩ (by show X.A.units + 1 + 0 < cLine; omega) (fun e h' tk hk => ⟨.int d, H, I.kept hk, ⟨_, rfl⟩, q0 e⟩) fun y ys i v h' tk e _ hv hk => ?_
  subst e
  obtain ⟨m1, m2⟩ := LmCnt.maxOf_two ys y
  obtain ⟨as, rr⟩ := hv
  have rr2 : Reads h' v (.int (PySem.W.maxOf y ys)) as := rr
  cases rr2
  exact ⟨.int _, H, I.kept hk, ⟨_, rfl⟩, q _ m1 m2⟩
end
section
variable {K : PySem.W.Frag} {σ : L2.St} {G : Hp} {ta tb : TE} {ns : List Int}
theorem ed_maxDf {m d : Int} (h : EvD ta σ G (.list (ns.map .int))) (k : EvD tb σ G (.int d)) (h0 : ns = [] → d = m) (hm : ∀ k, k ∈ ns → (∀ y, y ∈ ns → y ≤ k) → k = m) : EvD (tCKw (rMaxDf K) (tCons ta tNil) (tCons tb tNil)) σ G (.int m) := fun H x Q q =>
  h H x _ fun v G1 H1 p r => (k.mono p.ext) H1 p.sub _ fun w G2 H2 p2 r2 => by
    cases r2
    cases r with
    | lst a b =>
      have e := b.ints
      subst e
      refine ⟨_, ns, d, rfl, rfl, .inl (.inl (p2.sub _ _ (p2.ext _ _ a))), fun e => ?_, fun k k1 k2 => ?_⟩
      · rw [h0 e]
        exact q _ G2 H2 (p.trans p2) (.int _)
      · rw [hm k k1 k2]
        exact q _ G2 H2 (p.trans p2) (.int _)
theorem ed_notInIntT {n : Int} (h : EvD ta σ G (.int n)) (k : EvD tb σ G (.tuple (ns.map .int))) : EvD (tOp (rIn K true) ta tb) σ G (.bool (!decide (n ∈ ns))) := fun H x Q q =>
  h H x _ fun v G1 H1 p r => (k.mono p.ext) H1 p.sub _ fun w G2 H2 p2 r2 => by
    cases r
    cases r2 with
    | tup a b =>
      have e := b.ints
      subst e
      refine ⟨_, _, rfl, .inr (.inl (rd_up p2.sub a)), rfl, flat_intV ns, ?_⟩
      rw [inV_ints]
      exact q _ G2 H2 (p.trans p2) (.bl _)
theorem ed_max2 {i j : Int} (h : EvD ta σ G (.int i)) (k : EvD tb σ G (.int j)) : EvD (tCB (fun xs H Q => ∃ i j, xs = [V.int i, V.int j] ∧ Q (V.int (if j > i then j else i)) H) (tCons ta (tCons tb tNil))) σ G (.int (if j > i then j else i)) := fun H x Q q =>
  h H x _ fun v G1 H1 p r => (k.mono p.ext) H1 p.sub _ fun w G2 H2 p2 r2 => by
    cases r
    cases r2
    exact ⟨i, j, rfl, q _ G2 H2 (p.trans p2) (.int _)⟩
end
theorem et_upq {t : TT} {b : Bool} {H : Hp} (h : EvT t σ G b) (x : Ex G H) : EvT t σ H b := fun H1 e Q q => h H1 (x.trans e) Q q
/-! ### the greatest place that the other hasn't -/
def mxI (ns : List Int) : Int := ns.foldr max (-1)
theorem mx_low : ∀ ns : List Int, -1 ≤ mxI ns
  | [] => Int.le_refl _
  | n :: ns => by
    have := mx_low ns
    show -1 ≤ max n (mxI ns)
    omega
theorem mx_ge : ∀ {ns : List Int} {y : Int}, y ∈ ns → y ≤ mxI ns
  | n :: ns, y, h => by
    show y ≤ max n (mxI ns)
    rcases List.mem_cons.mp h with rfl | h
    · omega
    · have := mx_ge h
      omega
theorem mx_le : ∀ {ns : List Int} {m : Int}, -1 ≤ m → (∀ y ∈ ns, y ≤ m) → mxI ns ≤ m
  | [], m, h, _ => h
  | n :: ns, m, h, k => by
    have := mx_le h fun y hy => k y (List.mem_cons_of_mem _ hy)
    have := k n List.mem_cons_self
    show max n (mxI ns) ≤ m
    omega
theorem mx_one {ns : List Int} (h0 : ∀ n ∈ ns, 0 ≤ n) {k : Int} (h1 : k ∈ ns) (h2 : ∀ y, y ∈ ns → y ≤ k) : k = mxI ns :=
  Int.le_antisymm (mx_ge h1) (mx_le (by have := h0 k h1; omega) h2)
theorem mx_same {ns ms : List Int} (h : ∀ y, y ∈ ns ↔ y ∈ ms) : mxI ns = mxI ms :=
  Int.le_antisymm (mx_le (mx_low ms) fun y hy => mx_ge ((h y).mp hy)) (mx_le (mx_low ns) fun y hy => mx_ge ((h y).mpr hy))
def loneI (ns ms : List Int) : Int := mxI (ns.filter fun n => !decide (n ∈ ms))
theorem lone_same {ns ms ns' ms' : List Int} (h1 : ∀ y, y ∈ ns ↔ y ∈ ns') (h2 : ∀ y, y ∈ ms ↔ y ∈ ms') : loneI ns ms = loneI ns' ms' := by
  unfold loneI
  refine mx_same fun y => ?_
  rw [List.mem_filter, List.mem_filter, h1, decide_eq_decide.mpr (h2 y)]
theorem lone_cons {k : Int} {A B : List Int} (h : ∀ x ∈ A, x < k) : loneI (k :: A) (k :: B) = loneI A B := by
  unfold loneI
  refine mx_same fun y => ?_
  rw [List.mem_filter, List.mem_filter]
  constructor
  · rintro ⟨h1, h2⟩
    have h3 : y ∉ k :: B := by simpa using h2
    rcases List.mem_cons.mp h1 with rfl | h1
    · exact absurd List.mem_cons_self h3
    · exact ⟨h1, by simpa using fun z => h3 (List.mem_cons_of_mem _ z)⟩
  · rintro ⟨h1, h2⟩
    have h3 : y ∉ B := by simpa using h2
    refine ⟨List.mem_cons_of_mem _ h1, ?_⟩
    have h4 : y ∉ k :: B := fun z => by
      rcases List.mem_cons.mp z with rfl | z
      · have := h y h1
        omega
      · exact h3 z
    simpa using h4
theorem lone_lt : ∀ (k : Nat) {a b : Int}, 0 ≤ a → a < b → b < fw k → loneI (grd k a) (grd k b) < loneI (grd k b) (grd k a)
  | 0, a, b, h0, h1, h2 => by
    have e0 : fw 0 = 1 := rfl
    omega
  | k + 1, a, b, h0, h1, h2 => by
    rw [grd_turn, grd_turn]
    by_cases zb : fw k ≤ b
    · rw [if_pos zb]
      have sb := grd_step h2 zb
      by_cases za : fw k ≤ a
      · rw [if_pos za, lone_cons fun x hx => (grd_below x hx).2, lone_cons fun x hx => (grd_below x hx).2]
        exact lone_lt k (by omega) (by omega) sb
      · rw [if_neg za]
        have l1 : loneI (grd k a) ((k : Int) :: grd k (b - fw k)) ≤ (k : Int) - 1 := by
          unfold loneI
          refine mx_le (by omega) fun y hy => ?_
          have := (grd_below y (List.mem_filter.mp hy).1).2
          omega
        have l2 : (k : Int) ≤ loneI ((k : Int) :: grd k (b - fw k)) (grd k a) := by
          unfold loneI
          refine mx_ge (List.mem_filter.mpr ⟨List.mem_cons_self, ?_⟩)
          have : (k : Int) ∉ grd k a := fun z => by
            have := (grd_below _ z).2
            omega
          simpa using this
        omega
    · rw [if_neg zb, if_neg (by omega)]
      exact lone_lt k h0 h1 (by omega)
/-- how two rows stand to each other, by places alone -/
def cmpI (ns ms : List Int) : Int := if loneI ns ms = loneI ms ns then 0 else if loneI ms ns < loneI ns ms then 1 else -1
def sgnI (a b : Int) : Int := if a = b then 0 else if b < a then 1 else -1
theorem row_lone (a b : Int) : loneI (rowI a) (rowI b) = loneI (grd 100 a) (grd 100 b) := lone_same (fun _ => List.mem_reverse) fun _ => List.mem_reverse
theorem cmp_rows {a b : Int} (a0 : 0 ≤ a) (a1 : a < fw 100) (b0 : 0 ≤ b) (b1 : b < fw 100) : cmpI (rowI a) (rowI b) = sgnI a b := by
  unfold cmpI sgnI
  by_cases e : a = b
  · subst e
    rw [if_pos rfl, if_pos rfl]
  · rw [if_neg e, row_lone a b, row_lone b a]
    by_cases l : b < a
    · have := lone_lt 100 b0 l a1
      rw [if_pos l, if_neg (by omega), if_pos (by omega)]
    · have := lone_lt 100 a0 (show a < b by omega) b1
      rw [if_neg l, if_neg (by omega), if_neg (by omega)]
def rLone : List PyData → Out → Prop := fun ds o => ∃ ns ms : List Int, ds = [.tuple (ns.map .int), .tuple (ms.map .int)] ∧ ns.length ≤ 1000 ∧ (∀ n ∈ ns, 0 ≤ n) ∧ o = .val (.int (loneI ns ms))
def cmpD : PyData → PyData → Int
  | .tuple a, .tuple b => cmpI (a.map toI) (b.map toI)
  | _, _ => 0
theorem toI_ints (ns : List Int) : (ns.map PyData.int).map toI = ns := by
  rw [List.map_map]
  exact (List.map_congr_left fun _ _ => rfl).trans (List.map_id ns)
theorem cmpD_ints (ns ms : List Int) : cmpD (.tuple (ns.map .int)) (.tuple (ms.map .int)) = cmpI ns ms := by
  show cmpI _ _ = _
  rw [toI_ints, toI_ints]
def cmpO (C : Addr) (d e : PyData) : Out := if isRowD d = true then (if isRowD e = true then .val (.int (cmpD d e)) else .err C) else .err C
def rCompare (C : Addr) : List PyData → Out → Prop := fun ds o => ∃ d e, ds = [d, e] ∧ plainD d = true ∧ plainD e = true ∧ o = cmpO C d e
theorem row_ints {d : PyData} (h : isRowD d = true) : ∃ ns : List Int, d = .tuple (ns.map .int) ∧ ns.length ≤ 240 ∧ ∀ n ∈ ns, 0 ≤ n := by
  have hp := isRow_pile h
  cases d with
  | tuple ds =>
    rw [isPile_tuple, Bool.and_eq_true, Bool.and_eq_true] at hp
    have e := places_ints hp.2.1
    rw [e] at hp
    refine ⟨ds.map toI, by rw [← e], ?_, fun n hn => ?_⟩
    · have := of_decide_eq_true hp.1
      rwa [List.length_map] at this
    · have h3 := List.all_eq_true.mp hp.2.1 (.int n) (List.mem_map_of_mem hn)
      have h4 : (decide (0 ≤ n) && decide (n ≤ 99)) = true := h3
      rw [Bool.and_eq_true] at h4
      exact of_decide_eq_true h4.1
  | _ => cases hp
def rowD (n : Int) : PyData := .tuple ((rowI n).map .int)
/-- a number that has a row -/
def OkN (n : Int) : Prop := 0 ≤ n ∧ n < fw 100
theorem row_cmp {C : Addr} {a b : Int} (ha : OkN a) (hb : OkN b) : rCompare C [rowD a, rowD b] (.val (.int (sgnI a b))) := by
  refine ⟨_, _, rfl, plain_ints _, plain_ints _, ?_⟩
  unfold cmpO rowD
  rw [row_isRow ha.2, row_isRow hb.2, if_pos rfl, if_pos rfl, cmpD_ints, cmp_rows ha.1 ha.2 hb.1 hb.2]
theorem eqv_lst2 : ∀ ms ns : List Int, PyData.eqv (.list (ms.map .int)) (.list (ns.map .int)) = decide (ms = ns)
  | [], [] => by rw [decide_eq_true rfl]; rfl
  | [], n :: r => by rw [decide_eq_false (by simp)]; rfl
  | n :: r, [] => by rw [decide_eq_false (by simp)]; rfl
  | m :: r, n :: t => by
    show (PyData.eqv (.int m) (.int n) && PyData.eqv (.list (r.map .int)) (.list (t.map .int))) = _
    rw [eqv_intI, eqv_lst2 r t, Bool.eq_iff_iff, Bool.and_eq_true, decide_eq_true_eq, decide_eq_true_eq, decide_eq_true_eq, List.cons.injEq]
theorem eqv_rows : ∀ xs : List Int, PyData.eqv (.list (xs.map rowD)) (.list (xs.map rowD)) = true
  | [] => rfl
  | x :: xs => by
    show (PyData.eqv (rowD x) (rowD x) && PyData.eqv (.list (xs.map rowD)) (.list (xs.map rowD))) = true
    rw [eqv_rows xs]
    unfold rowD
    rw [eqv_tup]
    rfl
theorem lay_rows : ∀ xs : List Int, PyData.canLayAll0 (xs.map rowD) = true ∧ PyData.depthAll (xs.map rowD) ≤ 1
  | [] => ⟨rfl, by decide⟩
  | x :: xs => by
    obtain ⟨h3, h4⟩ := lay_rows xs
    constructor
    · show (PyData.canLayAll0 ((rowI x).map .int) && PyData.canLayAll0 (xs.map rowD)) = true
      rw [lay_ints, h3]
      rfl
    · show max (PyData.depthAll ((rowI x).map .int) + 1) (PyData.depthAll (xs.map rowD)) ≤ 1
      rw [depth_ints]
      omega
theorem shaped_rows (xs : List Int) : SeqAt.shaped (.list (xs.map rowD)) = true := by
  obtain ⟨h3, h4⟩ := lay_rows xs
  show (PyData.canLayAll0 (xs.map rowD) && decide (PyData.depthAll (xs.map rowD) + 1 ≤ 64)) = true
  rw [h3, decide_eq_true (by omega)]
  rfl
/-! ### put in -/
theorem cut_to (ds : List PyData) (i : Nat) : cutD ds none (some (i : Int)) = ds.take i := by
  unfold cutD
  rw [HT.sIx_none, HT.sIx_nat, List.drop_zero, Nat.sub_zero]
  by_cases h : i ≤ ds.length
  · rw [Nat.min_eq_left h]
  · rw [Nat.min_eq_right (by omega), List.take_of_length_le (Nat.le_refl _), List.take_of_length_le (by omega)]
theorem cut_from (ds : List PyData) (i : Nat) (h : i ≤ ds.length) : cutD ds (some (i : Int)) none = ds.drop i := by
  unfold cutD
  rw [HT.sIx_none, HT.sIx_nat, Nat.min_eq_left h]
  exact List.take_of_length_le (by rw [List.length_drop]; exact Nat.le_refl _)
theorem ins_at (n : Int) : ∀ (xs : List Int) (i : Nat), i ≤ xs.length → (∀ x ∈ xs.take i, x < n) → (i < xs.length → ¬ xs.getD i 0 < n) → insI n xs = xs.take i ++ [n] ++ xs.drop i
  | [], i, h, _, _ => by
    rw [List.take_nil, List.drop_nil]
    rfl
  | x :: xs, 0, _, _, h2 => by
    have := h2 (Nat.zero_lt_succ _)
    have h3 : ¬ x < n := this
    show insI n (x :: xs) = n :: x :: xs
    unfold insI
    rw [if_pos (by omega)]
  | x :: xs, i + 1, h, h1, h2 => by
    have h3 : x < n := h1 x (by rw [List.take_succ_cons]; exact List.mem_cons_self)
    have ih := ins_at n xs i (by rw [List.length_cons] at h; omega) (fun y hy => h1 y (by rw [List.take_succ_cons]; exact List.mem_cons_of_mem _ hy)) fun hl => by
      have h4 := h2 (by rw [List.length_cons]; omega)
      rwa [List.getD_cons_succ] at h4
    rw [List.take_succ_cons, List.drop_succ_cons, List.cons_append, List.cons_append, ← ih]
    show (if n ≤ x then n :: x :: xs else x :: insI n xs) = _
    rw [if_neg (by omega)]
def rLPut : List PyData → Out → Prop := fun ds o => ∃ (xs : List Int) (n : Int), ds = [.list (xs.map rowD), rowD n] ∧ xs.length ≤ 1000 ∧ OkN n ∧ (∀ x ∈ xs, OkN x) ∧ o = .val (.list ((insI n xs).map rowD))
def putF (ms : List Int) : Nat → List Int
  | 0 => []
  | k + 1 => insI (ms.getD k 0) (putF ms k)
theorem putF_srt (ms : List Int) : ∀ k, k ≤ ms.length → putF ms k = srt (ms.take k) := by
  have key : ∀ k, k ≤ ms.length → (putF ms k).Perm (ms.take k) ∧ (putF ms k).Pairwise (· ≤ ·) := by
    intro k
    induction k with
    | zero => exact fun _ => ⟨.refl _, .nil⟩
    | succ k ih =>
      intro h
      obtain ⟨h1, h2⟩ := ih (by omega)
      refine ⟨?_, insI_rise _ h2⟩
      rw [List.take_add_one, List.getElem?_eq_getElem (by omega)]
      show (insI (ms.getD k 0) (putF ms k)).Perm (ms.take k ++ [ms[k]])
      rw [List.getD_eq_getElem?_getD, List.getElem?_eq_getElem (by omega)]
      exact (insI_perm _ _).trans ((h1.cons _).trans (List.perm_append_comm (l₁ := [ms[k]])))
  intro k h
  exact srt_one (key k h).1 (key k h).2
theorem putF_len (ms : List Int) : ∀ k, (putF ms k).length = k
  | 0 => rfl
  | k + 1 => by
    show (insI _ (putF ms k)).length = k + 1
    rw [(insI_perm _ _).length_eq, List.length_cons, putF_len ms k]
theorem putF_ok {ms : List Int} (h : ∀ x ∈ ms, OkN x) : ∀ k, k ≤ ms.length → ∀ x ∈ putF ms k, OkN x
  | 0, _, _, hx => by cases hx
  | k + 1, hk, x, hx => by
    rcases List.mem_cons.mp ((insI_perm _ _).mem_iff.mp hx) with rfl | hx
    · refine h _ ?_
      rw [List.getD_eq_getElem?_getD, List.getElem?_eq_getElem (by omega)]
      exact List.getElem_mem _
    · exact putF_ok h k (by omega) x hx
/-! ### the numbers of a script -/
def numStep (fs : List Int) (m : Int) : Int :=
  if ¬ fs = [] ∧ m % 4 = 1 then (if fs.getLastD 0 + m / 8 % 7 - 3 > 0 then fs.getLastD 0 + m / 8 % 7 - 3 else 0)
  else if ¬ fs = [] ∧ m % 4 = 2 then fs.getLastD 0 / fw (m / 8 % 40).toNat * fw (m / 8 % 40).toNat + m / 8 % 50
  else m / 8 * 48271 * 48271 % 10 ^ 20
def numsF (ns : List Int) : Nat → List Int
  | 0 => []
  | k + 1 => numsF ns k ++ [numStep (numsF ns k) (mixI (ns.getD k 0) (7 + (k : Nat)))]
def numsI (ns : List Int) : List Int := numsF (ns.take 40) (ns.take 40).length
theorem numsF_len (ns : List Int) : ∀ k, (numsF ns k).length = k
  | 0 => rfl
  | k + 1 => by
    show (numsF ns k ++ [_]).length = k + 1
    rw [List.length_append, numsF_len ns k]
    rfl
theorem lastD_mem {fs : List Int} (h : ¬ fs = []) : fs.getLastD 0 ∈ fs := by
  rw [List.getLastD_eq_getLast?, List.getLast?_eq_some_getLast h]
  exact List.getLast_mem h
theorem numStep_ok {fs : List Int} {m B : Int} (hB : 10 ^ 20 ≤ B) (h : ∀ x ∈ fs, 0 ≤ x ∧ x < B) (h0 : 0 ≤ m) : 0 ≤ numStep fs m ∧ numStep fs m < B + 50 := by
  unfold numStep
  split
  · rename_i c
    have := h _ (lastD_mem c.1)
    split <;> omega
  · split
    · rename_i c
      have := h _ (lastD_mem c.1)
      have w := fw_pos (m / 8 % 40).toNat
      have h1 := Int.ediv_mul_le (fs.getLastD 0) (b := fw (m / 8 % 40).toNat) (by omega)
      have h2 := Int.ediv_nonneg this.1 (show 0 ≤ fw (m / 8 % 40).toNat by omega)
      have h3 := Int.mul_nonneg h2 (show 0 ≤ fw (m / 8 % 40).toNat by omega)
      omega
    · omega
theorem numsF_ok (ns : List Int) : ∀ k : Nat, ∀ x ∈ numsF ns k, 0 ≤ x ∧ x < 10 ^ 20 + 50 * (k : Int)
  | 0, x, h => by cases h
  | k + 1, x, h => by
    have ih := numsF_ok ns k
    rcases List.mem_append.mp h with h | h
    · have := ih x h
      omega
    · have e := List.mem_singleton.mp h
      have := numStep_ok (B := 10 ^ 20 + 50 * (k : Int)) (m := mixI (ns.getD k 0) (7 + (k : Nat))) (by omega) ih (mixI_nn _ _)
      rw [e]
      omega
theorem nums_ok (ns : List Int) : ∀ x ∈ numsI ns, OkN x := fun x hx => by
  have := numsF_ok _ _ x hx
  have hl : (ns.take 40).length ≤ 40 := by
    rw [List.length_take]
    omega
  unfold OkN
  rw [fw100]
  omega
theorem nums_len (ns : List Int) : (numsI ns).length ≤ 40 := by
  unfold numsI
  rw [numsF_len, List.length_take]
  omega
def rLNums (K : PySem.W.Frag) : Hp → List PyData → Out → Prop := fun G ds o => ∃ (a : Addr) (ns : List Int), ds = [opq a] ∧ SqL K G a (ns.map V.int) ∧ ns.length ≤ 63 ∧ o = .val (.list ((numsI ns).map .int))
theorem fw40 {j : Nat} (h : j < 40) : 0 < fw j ∧ fw j < 1073741824 := by
  have h1 := fw_pos j
  have h2 := fw_mono (show j ≤ 39 by omega)
  have h3 : (fpI 39).1 = 165580141 := by decide +kernel
  rw [fp_eq] at h3
  have h4 : fw 39 = 165580141 := h3
  omega
section
variable {K : PySem.W.Frag} {σ : L2.St} {G G0 H H0 : Hp} {D : Ends} {tu tz : TS} {ns : List Int}
/-- a walk of numbers with their places, a list of one's own growing beside it -/
theorem d_forEnM {wi : TI} {j l : Nat} (P : Part G0 H0 G H) (h : EvI wi σ G (enD (ns.map .int))) (C : Hp → Nat → L2.St → Hp → Prop) (h0 : ∀ G1 H1, Part G H G1 H1 → C G1 0 σ H1) (hP : ∀ G1 k σ' H', C G1 k σ' H' → Part G0 H0 G1 H')
    (hs : ∀ (G1 : Hp) (k : Nat) (c : Int) (σ' : L2.St) (H1 H2 : Hp), k < ns.length → c = ns.getD k 0 → Ex G G1 → C G1 k σ' H1 → Ex H1 H2 → Part G0 H0 G1 H2 →
      tu { D with nx := C G1 (k + 1), ct := C G1 (k + 1), bk := tz D } ((σ'.set j (some (.int (k : Nat)))).set l (some (.int c))) H2)
    (hd : ∀ (G1 : Hp) (σ' : L2.St) (H' : Hp), Ex G G1 → C G1 ns.length σ' H' → tz D σ' H') :
    tSeq (tFor wi (gTup K 2 (gCons (gName j) (gCons (gName l) gNil))) tu) tz D σ H := by
  refine d_forM P h C h0 (fun G1 i σ' H' _ q => (hP G1 i σ' H' q).sub) (fun G1 i x σ' H1 H2 hi e1 q y => ?_) fun G1 σ' H' e1 q => hd G1 σ' H' e1 (by rw [enD_len, List.length_map] at q; exact q)
  have P1 := hP G1 i σ' H1 q
  obtain ⟨G', d, p, e3, r⟩ := y G1 (Ex.refl G1) P1.sub
  rw [enD_len, List.length_map] at hi
  rw [enD_ints, List.getElem?_map, List.getElem?_range hi] at e3
  have e4 := (Option.some.inj e3).symm
  subst e4
  cases r with
  | @tup T xs _ et b =>
    cases b with
    | cons r1 b =>
      cases b with
      | cons r2 b =>
        cases b
        cases r1
        cases r2
        exact ⟨T, _, rfl, .inl (rd_up p.sub et), rfl, _, _, rfl, _, _, rfl, rfl, hs G1 i _ σ' H1 H2 hi rfl e1 q p.old (P1.on p.old)⟩
/-- a, b = x, y, both sides written -/
theorem d_par {i j : Nat} {tr : TA} {d e : PyData} (P : Part G0 H0 G H) (h : EdA tr σ G [d, e]) (k : ∀ x y G' H', Part G0 H0 G' H' → Ex G G' → Ex H H' → Rp G' x d → Rp G' y e → tz D ((σ.set i (some x)).set j (some y)) H') : tSeq (tPar i j tr) tz D σ H :=
  h H P.sub _ fun vs G' H' p r => by
    obtain ⟨x, y, rfl, r1, r2⟩ := two r
    exact ⟨x, y, rfl, k x y G' H' (P.trans p) p.ext p.old r1 r2⟩
/-- a walk by one name, the part growing -/
theorem d_forC {wi : TI} {j : Nat} {its : List PyData} (P : Part G0 H0 G H) (h : EvI wi σ G its) (C : Nat → Hp → L2.St → Prop) (hC : ∀ G', Ex G G' → C 0 G' σ)
    (hs : ∀ (k : Nat) (d : PyData) (x : V) (σ' : L2.St) (G' H' : Hp) (N : L2.St → Hp → Prop), its[k]? = some d → Ex G G' → Part G0 H0 G' H' → Rp G' x d → C k G' σ' → (∀ σ2 G2 H2, C (k + 1) G2 σ2 → Ex G' G2 → Part G0 H0 G2 H2 → N σ2 H2) →
      tu { D with nx := N, ct := N, bk := tz D } (σ'.set j (some x)) H')
    (up : ∀ k σ' G1 G2, C k G1 σ' → Ex G1 G2 → C k G2 σ')
    (hd : ∀ (σ' : L2.St) (G' H' : Hp), C its.length G' σ' → Ex G G' → Part G0 H0 G' H' → tz D σ' H') :
    tSeq (tFor wi (gName j) tu) tz D σ H := by
  refine d_for P h (fun G1 i σ' H' => ∃ G', Ex G1 G' ∧ C i G' σ' ∧ Part G0 H0 G' H') (fun G1 H1 p _ _ => ⟨G1, Ex.refl _, hC G1 (by assumption), p⟩) (fun G1 i σ' H' _ ⟨G', e, _, q⟩ => e.trans q.sub) (fun G1 i x σ' H1 H' hi e1 q y => ?_) fun G1 σ' H' e1 q => ?_
  · obtain ⟨Gc, ec, c, P1⟩ := q
    obtain ⟨G', d, p, e3, r⟩ := y Gc ec P1.sub
    exact hs i d x σ' G' H' _ e3 (e1.trans (ec.trans p.ext)) (P1.trans p) r (up _ _ _ _ c p.ext) fun σ2 G2 H2 c2 x2 P2 => ⟨G2, (ec.trans p.ext).trans x2, c2, P2⟩
  · obtain ⟨G', e, c, P1⟩ := q
    exact hd σ' G' H' c (e1.trans e) P1
end
end Lm

set_option maxHeartbeats 4000000
namespace K04
open PySem PySem.Spec PyProof.Rows L2 Evl Lm RT
/-- a statement of the program's top -/
def topS (i : Nat) : Stmt := PySem.Challenge.pw_loosemarks_k04_whole_order.main.body.getD i (.Pass ⟨0, 0, 0, 0⟩)
structure Txt (K : PySem.W.Frag) (mg : Str → Option Value) where
  b_ValueError : mg "ValueError" = none
  b_all : mg "all" = none
  b_bool : mg "bool" = none
  b_enumerate : mg "enumerate" = none
  b_int : mg "int" = none
  b_isinstance : mg "isinstance" = none
  b_len : mg "len" = none
  b_list : mg "list" = none
  b_max : mg "max" = none
  b_range : mg "range" = none
  b_reversed : mg "reversed" = none
  b_sorted : mg "sorted" = none
  b_tuple : mg "tuple" = none
  b_type : mg "type" = none
  b_zip : mg "zip" = none
  c_LAST_PLACE : ∃ t, mg "LAST_PLACE" = some (.int 99 t)
  c_MOST_MARKS : ∃ t, mg "MOST_MARKS" = some (.int 240 t)
  er : ErrTxt K mg
  f_is_place : Addr
  a_is_place : At K mg "is_place" ["thing"] (topS 11) f_is_place
  f_next_pairs : Addr
  a_next_pairs : At K mg "next_pairs" ["pile"] (topS 12) f_next_pairs
  f_is_pile : Addr
  a_is_pile : At K mg "is_pile" ["thing"] (topS 13) f_is_pile
  f_is_row : Addr
  a_is_row : At K mg "is_row" ["thing"] (topS 14) f_is_row
  f_need_row : Addr
  a_need_row : At K mg "need_row" ["thing"] (topS 15) f_need_row
  f_greatest_lone : Addr
  a_greatest_lone : At K mg "greatest_lone" ["one", "other"] (topS 17) f_greatest_lone
  f_compare : Addr
  a_compare : At K mg "compare" ["one", "other"] (topS 18) f_compare
  f__law_mix : Addr
  a__law_mix : At K mg "_law_mix" ["_law_cell", "_law_k"] (topS 20) f__law_mix
  f__law_worths : Addr
  a__law_worths : At K mg "_law_worths" [] (topS 21) f__law_worths
  f__law_row : Addr
  a__law_row : At K mg "_law_row" ["_law_number"] (topS 22) f__law_row
  f__law_word : Addr
  a__law_word : At K mg "_law_word" ["_law_e"] (topS 23) f__law_word
  f__law_tried : Addr
  a__law_tried : At K mg "_law_tried" ["_law_deed", "_law_things"] (topS 24) f__law_tried
  f__law_numbers : Addr
  a__law_numbers : At K mg "_law_numbers" ["_law_script"] (topS 25) f__law_numbers
  f__law_put_in : Addr
  a__law_put_in : At K mg "_law_put_in" ["_law_rows", "_law_row_here"] (topS 26) f__law_put_in
  f_law : Addr
  a_law : At K mg "law" ["_law_script"] (topS 27) f_law
section
variable {P : Program} {w : World} {K : PySem.W.Frag} {mg : Str → Option Value} {base : Heap} (T : Txt K mg)
include T
theorem has_is_place : Has P w K mg base "is_place" ["thing"] 1 (spO rPlace) := by
  have nd : (["thing"] : List Str).Nodup := by decide +kernel
  refine has_of (N := ["thing"]) T.a_is_place ⟨rfl, rfl, rfl, by decide +kernel, rfl, by decide +kernel, by decide +kernel⟩ (fun _ _ ⟨_, e, _⟩ => by rw [e]; rfl) fun cdv A outer s H vs Q E hr => ?_
  refine ⟨_, (pss_one (ps_ret (pe_and (pe_cmpR LmType.op_eqTy (pe_callTy LmType.call_type (by rfl) T.b_type (by decide +kernel) (pa_cons (pv 0) pa_nil)) (pe_bltn (v := .ty "int") (u := .type "int") (by rfl) T.b_int (by decide +kernel) rfl) (nomark _)) (pe_one (pe_chain op_le op_le pe_int (pv 0) (pe_cst (by rfl) T.c_LAST_PLACE)))))), fun G ds o e rp h q => ?_⟩
  obtain ⟨d, rfl, hd, rfl⟩ := h
  obtain ⟨v, rfl, r⟩ := one rp
  obtain ⟨S, hS⟩ := Option.isSome_iff_exists.mp hd
  refine d_retD (Part.refl e) ?_ q
  refine (ed_andV (b := isPlaceD d) (ed_tyEq (ev_type (ed_var rfl r) hS) ev_c (tyD_known hS) known_int) fun hi => ?_).is ?_
  · have hi2 := of_decide_eq_true hi
    rw [hi2] at hS
    obtain ⟨i, rfl⟩ := tyD_int hS
    exact ed_chain (i := 0) (j := i) (k := 99) ed_int (ed_var rfl r) ed_int
  · by_cases n : S = "int"
    · rw [decide_eq_true n, Bool.true_and]
    · rw [decide_eq_false n, Bool.false_and, tyD_not hS n]
theorem has_next_pairs : Has P w K mg base "next_pairs" ["pile"] 1 (spO rNext) := by
  have nd : (["pile"] : List Str).Nodup := by decide +kernel
  refine has_of (N := ["pile"]) T.a_next_pairs ⟨rfl, rfl, rfl, by decide +kernel, rfl, by decide +kernel, by decide +kernel⟩ (fun _ _ ⟨_, e, _⟩ => by rw [e]; rfl) fun cdv A outer s H vs Q E hr => ?_
  refine ⟨_, (pss_one (ps_ret (LmZip.pe_listZip rfl (by rfl) T.b_list (by rfl) T.b_zip (pa_cons (pv 0) (pa_cons (pe_slice sl_tupA (pv 0) (po_some pe_int) po_none) pa_nil))))), fun G ds o e rp h q => ?_⟩
  obtain ⟨l, rfl, rfl⟩ := h
  obtain ⟨v, rfl, r⟩ := one rp
  refine d_retD (Part.refl e) ?_ q
  refine (ed_listZip (ed_var rfl r) (ed_slT (ed_var rfl r) (eo_some (ed_int.ev rfl)) eo_none)).is ?_
  rw [cut1D]
theorem has_is_pile : Has P w K mg base "is_pile" ["thing"] 2 (spO rIsPile) := by
  have nd : (["thing", "entry", "low", "high"] : List Str).Nodup := by decide +kernel
  refine has_of (N := ["thing", "entry", "low", "high"]) T.a_is_pile ⟨rfl, rfl, rfl, by decide +kernel, rfl, by decide +kernel, by decide +kernel⟩ (fun _ _ ⟨_, e, _⟩ => by rw [e]; rfl) fun cdv A outer s H vs Q E hr => ?_
  refine ⟨_, (pss_cons (ps_if (PW.pt (pw_or (pt_cmpR LmType.op_neTy (pe_callTy LmType.call_type (by rfl) T.b_type (by decide +kernel) (pa_cons (pv 0) pa_nil)) (pe_bltn (v := .ty "tuple") (u := .type "tuple") (by rfl) T.b_tuple (by decide +kernel) rfl) (nomark _)) (pw_or1 (pt_cmpR op_gt (pe_callB call_len_seq (by rfl) T.b_len (by decide +kernel) (pa_cons (pv 0) pa_nil)) (pe_cst (by rfl) T.c_MOST_MARKS) (nomark _))))) (pss_one (ps_ret pe_bl)) pss_nil)
    (pss_cons (ps_if (pt_not (pt_val (pe_callB (cr_all rfl) (by rfl) T.b_all (by decide +kernel) (pa_cons (pe_lc (own := [("entry", 1)]) (g := (gName 1)) (tt := tYes) (te := (tCall (spO rPlace) [] E0 (tCons (tVar 1) tNil))) rfl nd (pi_tup (pv 0)) (blkOk_by (own := [("entry", 1)]) (N := ["thing", "entry", "low", "high"]) (sc := defScope (topS 13)) (by decide +kernel)) (fun _ _ _ _ _ => (pg_name (i := 1) nd rfl (Or.inl rfl) (Or.inr rfl))) (fun _ _ _ _ _ => pts_nil) (fun _ _ _ _ _ => (pe_callH (has_is_place (P := P) (w := w) (base := base) T) (hr.mono (by decide)) (by rfl) passL (pa_cons (pv 1) pa_nil)))) pa_nil)))) (pss_one (ps_ret pe_bl)) pss_nil)
    (pss_one (ps_ret (pe_callB (cr_all rfl) (by rfl) T.b_all (by decide +kernel) (pa_cons (pe_lc (own := [("low", 2), ("high", 3)]) (g := (gTup K 2 (gCons (gName 2) (gCons (gName 3) gNil)))) (tt := tYes) (te := (tOp (rI0 fun i j => .bl (decide (i ≤ j))) (tVar 2) (tVar 3))) rfl nd (pi_list (pe_callH (has_next_pairs (P := P) (w := w) (base := base) T) (hr.mono (by decide)) (by rfl) passL (pa_cons (pv 0) pa_nil))) (blkOk_by (own := [("low", 2), ("high", 3)]) (N := ["thing", "entry", "low", "high"]) (sc := defScope (topS 13)) (by decide +kernel)) (fun _ _ _ _ _ => (pg_tup rfl (pgs_cons (pg_name (i := 2) nd rfl (Or.inl rfl) (Or.inr rfl)) (pgs_cons (pg_name (i := 3) nd rfl (Or.inl rfl) (Or.inr rfl)) pgs_nil)))) (fun _ _ _ _ _ => pts_nil) (fun _ _ _ _ _ => (pe_cmpR op_le (pv 2) (pv 3) (nomark _)))) pa_nil)))))), fun G ds o e rp h q => ?_⟩
  obtain ⟨d, rfl, hd, rfl⟩ := h
  obtain ⟨v, rfl, r⟩ := one rp
  obtain ⟨S, hS⟩ := plain_ty hd
  have c1 := ed_tyNe (ev_type (ed_var (σ := start ["thing", "entry", "low", "high"] [v]) (i := 0) rfl r) hS) (ev_c (v := .ty "tuple")) (tyD_known hS) known_tuple
  by_cases n : S = "tuple"
  · subst n
    obtain ⟨l, rfl⟩ := tyD_tuple hS
    refine d_when (Part.refl e) (et_or (b := decide (240 < (l.length : Int))) (et_of' c1) fun _ => et_of' (ed_i0 (ed_lenT (ed_var rfl r)) ed_int rfl)) (fun hb H1 P1 _ => ?_) fun hb H1 P1 _ => ?_
    · have h1 : 240 < l.length := by
        have h0 : (240 : Int) < l.length := by simpa using hb
        omega
      refine d_retD (E := E) P1 (ed_bl (b := false)) ?_
      have z : isPileD (.tuple l) = false := by
        rw [isPile_tuple, decide_eq_false (by omega), Bool.false_and]
      rw [z] at q
      exact q
    · have h1 : l.length ≤ 240 := by
        have h0 : (l.length : Int) ≤ 240 := by simpa using hb
        omega
      have cA : EvD (tCB (rAll K) (tCons (tLc (iTup K (tVar 0)) (gName 1) tYes (tCall (spO rPlace) [] E0 (tCons (tVar 1) tNil)) [1]) tNil)) (start ["thing", "entry", "low", "high"] [v]) G (.bool (l.all isPlaceD)) := by
        refine (ed_all (bs := l.map isPlaceD) ((ed_lc (fun _ => true) (fun d => .bool (isPlaceD d)) (ei_tup (ed_var rfl r)) (by omega) (turn_name (fun _ => rfl) (fun _ _ _ _ _ _ _ => et_yes) fun i d x G' e' hi r' _ => ?_)).is ?_)).is ?_
        · exact ed_call (ea_cons (ed_var rfl r') ea_nil) ⟨d, rfl, List.all_eq_true.mp hd d (List.mem_of_getElem? hi), rfl⟩
        · rw [lcD_all, List.map_map]
          rfl
        · rw [List.all_map]
          rfl
      refine d_when P1 (et_not (et_of cA)) (fun hb2 H2 P2 _ => ?_) fun hb2 H2 P2 _ => ?_
      · refine d_retD (E := E) P2 (ed_bl (b := false)) ?_
        have h2 : l.all isPlaceD = false := by simpa using hb2
        have z : isPileD (.tuple l) = false := by
          rw [isPile_tuple, h2, Bool.false_and, Bool.and_false]
        rw [z] at q
        exact q
      · have h2 : l.all isPlaceD = true := by simpa using hb2
        refine d_retD (E := E) P2 ?_ q
        have el := places_ints h2
        refine (ed_allPairs (fun a b => decide (a ≤ b)) (qs := nx (l.map toI)) ((ed_call (ea_cons (ed_var rfl r) ea_nil) ⟨l, rfl, rfl⟩).is ?_) ?_ (fun _ _ => rfl) fun a b G' => ed_i0 (ed_var rfl (.int a)) (ed_var rfl (.int b)) rfl).is ?_
        · rw [← nx_pairs, ← el]
        · unfold nx
          rw [List.length_zip, List.length_map]
          omega
        · rw [isPile_tuple, h2, decide_eq_true h1]
          rfl
  · refine d_when (Part.refl e) (et_or (b := false) (et_of' c1) fun hb => ?_) (fun _ H1 P1 _ => ?_) fun hb H1 P1 _ => ?_
    · rw [decide_eq_false n] at hb
      cases hb
    · refine d_retD (E := E) P1 (ed_bl (b := false)) ?_
      rw [tyD_notT hS n] at q
      exact q
    · rw [decide_eq_false n] at hb
      cases hb
theorem has_is_row : Has P w K mg base "is_row" ["thing"] 3 (spO rIsRow) := by
  have nd : (["thing", "low", "high"] : List Str).Nodup := by decide +kernel
  refine has_of (N := ["thing", "low", "high"]) T.a_is_row ⟨rfl, rfl, rfl, by decide +kernel, rfl, by decide +kernel, by decide +kernel⟩ (fun _ _ ⟨_, e, _⟩ => by rw [e]; rfl) fun cdv A outer s H vs Q E hr => ?_
  refine ⟨_, (pss_one (ps_ret (pe_and (pe_callH (has_is_pile (P := P) (w := w) (base := base) T) (hr.mono (by decide)) (by rfl) passL (pa_cons (pv 0) pa_nil)) (pe_one (pe_callB (cr_all rfl) (by rfl) T.b_all (by decide +kernel) (pa_cons (pe_lc (own := [("low", 1), ("high", 2)]) (g := (gTup K 2 (gCons (gName 1) (gCons (gName 2) gNil)))) (tt := tYes) (te := (tOp (rI0 fun i j => .bl (decide (j < i))) (tOp (rI0 fun i j => .int (i - j)) (tVar 2) (tVar 1)) (tC (.int 1)))) rfl nd (pi_list (pe_callH (has_next_pairs (P := P) (w := w) (base := base) T) (hr.mono (by decide)) (by rfl) passL (pa_cons (pv 0) pa_nil))) (blkOk_by (own := [("low", 1), ("high", 2)]) (N := ["thing", "low", "high"]) (sc := defScope (topS 14)) (by decide +kernel)) (fun _ _ _ _ _ => (pg_tup rfl (pgs_cons (pg_name (i := 1) nd rfl (Or.inl rfl) (Or.inr rfl)) (pgs_cons (pg_name (i := 2) nd rfl (Or.inl rfl) (Or.inr rfl)) pgs_nil)))) (fun _ _ _ _ _ => pts_nil) (fun _ _ _ _ _ => (pe_cmpR op_gt (pe_op op_sub (pv 2) (pv 1)) pe_int (nomark _)))) pa_nil)))))), fun G ds o e rp h q => ?_⟩
  obtain ⟨d, rfl, hd, rfl⟩ := h
  obtain ⟨v, rfl, r⟩ := one rp
  refine d_retD (Part.refl e) ?_ q
  refine ed_andV (ed_call (ea_cons (ed_var rfl r) ea_nil) ⟨d, rfl, hd, rfl⟩) fun hp => ?_
  cases d with
  | tuple l =>
    rw [isPile_tuple, Bool.and_eq_true, Bool.and_eq_true] at hp
    have el := places_ints hp.2.1
    have h1 := of_decide_eq_true hp.1
    refine ed_allPairs (fun a b => decide (1 < b - a)) (qs := nx (l.map toI)) ((ed_call (ea_cons (ed_var rfl r) ea_nil) ⟨l, rfl, rfl⟩).is ?_) ?_ (fun _ _ => rfl) fun a b G' => ed_i0 (ed_i0 (ed_var rfl (.int b)) (ed_var rfl (.int a)) rfl) ed_int rfl
    · rw [← nx_pairs, ← el]
    · unfold nx
      rw [List.length_zip, List.length_map]
      omega
  | _ => cases hp
theorem has_need_row : Has P w K mg base "need_row" ["thing"] 4 (spO (rNeedR (T.er.c 1))) := by
  have nd : (["thing"] : List Str).Nodup := by decide +kernel
  refine has_of (N := ["thing"]) T.a_need_row ⟨rfl, rfl, rfl, by decide +kernel, rfl, by decide +kernel, by decide +kernel⟩ (fun _ _ ⟨_, e, _⟩ => by rw [e]; rfl) fun cdv A outer s H vs Q E hr => ?_
  refine ⟨_, (pss_one (ps_if (pt_not (pt_val (pe_callH (has_is_row (P := P) (w := w) (base := base) T) (hr.mono (by decide)) (by rfl) passL (pa_cons (pv 0) pa_nil)))) (pss_one (ps_raise rfl (takes_of rfl rfl rfl rfl) (pmk_own PySem.F.excBase_ValueError (T.er.x 1 (by decide)) T.er.g1 (T.er.k 1 (by decide)) (raises_own (T.er.e 1 (by decide)) (T.er.t 1 (by decide))) rfl))) pss_nil)), fun G ds o e rp h q => ?_⟩
  obtain ⟨d, rfl, hd, rfl⟩ := h
  obtain ⟨v, rfl, r⟩ := one rp
  refine d_if1 (Part.refl e) (et_not (et_of (ed_call (ea_cons (ed_var rfl r) ea_nil) ⟨d, rfl, hd, rfl⟩))) (fun hb H1 P1 x => ?_) fun hb H1 P1 x => ?_
  · have hb2 : isRowD d = false := by simpa using hb
    rw [hb2] at q
    exact q H1 x
  · have hb2 : isRowD d = true := by simpa using hb
    rw [hb2] at q
    exact q .non _ H1 P1 .non
theorem has_greatest_lone : Has P w K mg base "greatest_lone" ["one", "other"] 1 (spO rLone) := by
  have nd : (["one", "other", "place"] : List Str).Nodup := by decide +kernel
  refine has_of (N := ["one", "other", "place"]) T.a_greatest_lone ⟨rfl, rfl, rfl, by decide +kernel, rfl, by decide +kernel, by decide +kernel⟩ (fun _ _ ⟨_, _, e, _⟩ => by rw [e]; rfl) fun cdv A outer s H vs Q E hr => ?_
  refine ⟨_, (pss_one (ps_ret (pe_callBK (cr_maxDf rfl (room65 hr)) (by rfl) T.b_max (by decide +kernel) (pa_cons (pe_lc (own := [("place", 2)]) (g := (gName 2)) (tt := (tTest (tOp (rIn K true) (tVar 2) (tVar 1)))) (te := (tVar 2)) rfl nd (pi_tup (pv 0)) (blkOk_by (own := [("place", 2)]) (N := ["one", "other", "place"]) (sc := defScope (topS 17)) (by decide +kernel)) (fun _ _ _ _ _ => (pg_name (i := 2) nd rfl (Or.inl rfl) (Or.inr rfl))) (fun _ _ _ _ _ => (pts_one (pt_cmpR op_notIn_seq (pv 2) (pv 1) (by rfl)))) (fun _ _ _ _ _ => (pv 2))) pa_nil) (pk_cons (pe_un un_neg pe_int) pk_nil)))), fun G ds o e rp h q => ?_⟩
  obtain ⟨ns, ms, rfl, hz, h0, rfl⟩ := h
  obtain ⟨v1, v2, rfl, r1, r2⟩ := two rp
  have at_ : ∀ {i : Nat} {d : PyData}, (ns.map PyData.int)[i]? = some d → ∃ n : Int, d = .int n := fun {i d} hi => by
    obtain ⟨n, _, e⟩ := List.mem_map.mp (List.mem_of_getElem? hi)
    exact ⟨n, e.symm⟩
  refine d_retD (E := E) (Part.refl e) (ed_maxDf (ns := ns.filter fun n => !decide (n ∈ ms)) (d := -1) (m := loneI ns ms) ((ed_lc (fun d => !decide (toI d ∈ ms)) (fun d => d) (ei_tup (ed_var rfl r1)) (by rw [List.length_map]; omega) (turn_name (fun _ => rfl) (fun i d x G' e' hi r => ?_) fun i d x G' e' hi r _ => ed_var rfl r)).is ?_) (ed_neg ed_int) (fun e => ?_) fun k k1 k2 => ?_) q
  · obtain ⟨n, rfl⟩ := at_ hi
    exact et_of' (ed_notInIntT (ed_var rfl r) (ed_var rfl (r2.up e')))
  · unfold lcD
    rw [List.filter_map, List.map_map]
    rfl
  · unfold loneI
    rw [e]
    rfl
  · exact mx_one (fun n hn => h0 n (List.mem_filter.mp hn).1) k1 k2
theorem has_compare : Has P w K mg base "compare" ["one", "other"] 5 (spO (rCompare (T.er.c 1))) := by
  have nd : (["one", "other", "here", "there"] : List Str).Nodup := by decide +kernel
  refine has_of (N := ["one", "other", "here", "there"]) T.a_compare ⟨rfl, rfl, rfl, by decide +kernel, rfl, by decide +kernel, by decide +kernel⟩ (fun _ _ ⟨_, _, e, _⟩ => by rw [e]; rfl) fun cdv A outer s H vs Q E hr => ?_
  refine ⟨_, (pss_cons (ps_expr (pe_callH (has_need_row (P := P) (w := w) (base := base) T) (hr.mono (by decide)) (by rfl) (passes_call (takes_of rfl rfl rfl rfl) (fun _ _ _ _ h => h)) (pa_cons (pv 0) pa_nil)))
    (pss_cons (ps_expr (pe_callH (has_need_row (P := P) (w := w) (base := base) T) (hr.mono (by decide)) (by rfl) (passes_call (takes_of rfl rfl rfl rfl) (fun _ _ _ _ h => h)) (pa_cons (pv 1) pa_nil)))
    (pss_cons (ps_set (i := 2) nd rfl (.inl rfl) (pe_callH (has_greatest_lone (P := P) (w := w) (base := base) T) (hr.mono (by decide)) (by rfl) passL (pa_cons (pv 0) (pa_cons (pv 1) pa_nil))))
    (pss_cons (ps_set (i := 3) nd rfl (.inl rfl) (pe_callH (has_greatest_lone (P := P) (w := w) (base := base) T) (hr.mono (by decide)) (by rfl) passL (pa_cons (pv 1) (pa_cons (pv 0) pa_nil))))
    (pss_cons (ps_if (pt_cmpR (op_eqD hr.units) (pv 2) (pv 3) (nomark _)) (pss_one (ps_ret pe_int)) pss_nil)
    (pss_one (ps_ret (pe_ifExp (pt_cmpR op_gt (pv 2) (pv 3) (nomark _)) pe_int (pe_un un_neg pe_int))))))))), fun G ds o e rp h q => ?_⟩
  obtain ⟨d1, d2, rfl, hd1, hd2, rfl⟩ := h
  obtain ⟨v1, v2, rfl, r1, r2⟩ := two rp
  unfold cmpO at q
  refine d_drop (d := .none) (Part.refl e) (ex_call (ea_cons (ed_var rfl r1) ea_nil) ⟨_, rfl, hd1, rfl⟩) (fun dx ed H1 P1 x1 => ?_) fun C eC H3 x3 => ?_
  · have p1 : isRowD d1 = true := by
      cases z : isRowD d1 with
      | true => rfl
      | false => rw [z] at ed; cases ed
    rw [if_pos p1] at q
    refine d_drop (d := .none) P1 (ex_call (ea_cons (ed_var rfl r2) ea_nil) ⟨_, rfl, hd2, rfl⟩) (fun dy ed H2 P2 x2 => ?_) fun C eC H3 x3 => ?_
    · have p2 : isRowD d2 = true := by
        cases z : isRowD d2 with
        | true => rfl
        | false => rw [z] at ed; cases ed
      rw [if_pos p2] at q
      obtain ⟨ns, rfl, nz, n0⟩ := row_ints p1
      obtain ⟨ms, rfl, mz, m0⟩ := row_ints p2
      rw [cmpD_ints] at q
      refine d_asgS (v := .int (loneI ns ms)) P2 (ed_call (ea_cons (ed_var rfl r1) (ea_cons (ed_var rfl r2) ea_nil)) ⟨ns, ms, rfl, by omega, n0, rfl⟩) rfl fun H3 P3 x3 => ?_
      refine d_asgS (v := .int (loneI ms ns)) P3 (ed_call (ea_cons (ed_var rfl r2) (ea_cons (ed_var rfl r1) ea_nil)) ⟨ms, ns, rfl, by omega, m0, rfl⟩) rfl fun H4 P4 x4 => ?_
      unfold cmpI at q
      refine d_when P4 (et_of' ((ed_eq (ed_var rfl (.int (loneI ns ms))) (ed_var rfl (.int (loneI ms ns))) (shaped_int _) (shaped_int _)).is (by rw [eqv_intI]))) (fun hb H5 P5 _ => ?_) fun hb H5 P5 _ => ?_
      · rw [if_pos (of_decide_eq_true hb)] at q
        exact d_retD (E := E) P5 ed_int q
      · rw [if_neg (of_decide_eq_false hb)] at q
        refine d_retD (E := E) P5 (ed_if (b := decide (loneI ms ns < loneI ns ms)) (et_of' (ed_i0 (ed_var rfl (.int _)) (ed_var rfl (.int _)) rfl)) (fun hb => ?_) fun hb => ?_) q
        · rw [if_pos (of_decide_eq_true hb)]
          exact ed_int
        · rw [if_neg (of_decide_eq_false hb)]
          exact ed_neg ed_int
    · have p2 : isRowD d2 = false := by
        cases z : isRowD d2 with
        | false => rfl
        | true => rw [z] at eC; cases eC
      rw [p2] at eC q
      cases eC
      exact q H3 x3
  · have p1 : isRowD d1 = false := by
      cases z : isRowD d1 with
      | false => rfl
      | true => rw [z] at eC; cases eC
    rw [p1] at eC q
    cases eC
    exact q H3 x3
theorem has_law_mix : Has P w K mg base "_law_mix" ["_law_cell", "_law_k"] 1 (spO rMix) := by
  have nd : (["_law_cell", "_law_k", "_law_made"] : List Str).Nodup := by decide +kernel
  refine has_of (N := ["_law_cell", "_law_k", "_law_made"]) T.a__law_mix ⟨rfl, rfl, rfl, by decide +kernel, rfl, by decide +kernel, by decide +kernel⟩ (fun _ _ ⟨_, _, e, _⟩ => by rw [e]; rfl) fun cdv A outer s H vs Q E hr => ?_
  refine ⟨_, (pss_cons (ps_set (i := 2) nd rfl (.inl rfl) (pe_op op_mod (pe_op op_add (pe_op op_add (pe_op op_add (pe_op op_mul (pv 0) pe_int) (pe_op op_mul (pe_op op_mul pe_int (pv 1)) (pv 1))) (pe_op op_mul pe_int (pv 1))) pe_int) pe_int))
    (pss_one (ps_ret (pe_op op_mod (pe_op op_mul (pv 2) (pe_op op_add (pe_op op_add (pv 2) (pe_op op_mul pe_int (pv 1))) pe_int)) pe_int)))), fun G ds o e rp h q => ?_⟩
  obtain ⟨c, k, rfl, k0, k1, rfl⟩ := h
  obtain ⟨v1, v2, rfl, r1, r2⟩ := two rp
  have s1 : EvD (tVar 0) (start ["_law_cell", "_law_k", "_law_made"] [v1, v2]) G (.int c) := ed_var rfl r1
  have s2 : EvD (tVar 1) (start ["_law_cell", "_law_k", "_law_made"] [v1, v2]) G (.int k) := ed_var rfl r2
  refine d_asgS (v := .int ((c * 48271 + 7919 * k * k + 31 * k + 5) % 2147483647)) (Part.refl e) (d := .int ((c * 48271 + 7919 * k * k + 31 * k + 5) % 2147483647)) (ed_iC (ed_i0 (ed_i0 (ed_i0 (ed_iC s1 ed_int ?_ rfl) (ed_iC (ed_iC ed_int s2 ?_ rfl) s2 ?_ rfl) rfl) (ed_iC ed_int s2 ?_ rfl) rfl) ed_int rfl) ed_int ?_ rfl) rfl fun H1 P1 x1 => ?_
  · exact .inr (by decide)
  · exact .inl (by decide)
  · exact .inr ⟨by omega, by omega⟩
  · exact .inl (by decide)
  · decide
  · have m0 : 0 ≤ (c * 48271 + 7919 * k * k + 31 * k + 5) % 2147483647 := Int.emod_nonneg _ (by decide)
    have m1 : (c * 48271 + 7919 * k * k + 31 * k + 5) % 2147483647 < 2147483647 := Int.emod_lt_of_pos _ (by decide)
    have q1 : Want (.val (.int (((c * 48271 + 7919 * k * k + 31 * k + 5) % 2147483647) * ((c * 48271 + 7919 * k * k + 31 * k + 5) % 2147483647 + 2 * k + 1) % 2147483629))) G H Q E := q
    generalize (c * 48271 + 7919 * k * k + 31 * k + 5) % 2147483647 = m at m0 m1 q1 ⊢
    have s3 : EvD (tVar 2) [some v1, some v2, some (.int m)] G (.int m) := ed_var rfl (.int m)
    have s2 : EvD (tVar 1) [some v1, some v2, some (.int m)] G (.int k) := ed_var rfl r2
    refine d_retD (E := E) P1 (ed_iC (ed_iC s3 (ed_i0 (ed_i0 s3 (ed_iC ed_int s2 ?_ rfl) rfl) ed_int rfl) ?_ rfl) ed_int ?_ rfl) q1
    · exact .inl (by decide)
    · exact .inl ⟨by omega, by omega⟩
    · decide
theorem has_law_worths : Has P w K mg base "_law_worths" [] 1 (spO (rWorths 101)) := by
  have nd : (["_law_found"] : List Str).Nodup := by decide +kernel
  refine has_of (N := ["_law_found"]) T.a__law_worths ⟨rfl, rfl, rfl, by decide +kernel, rfl, by decide +kernel, by decide +kernel⟩ (fun _ _ ⟨e, _⟩ => by rw [e]; rfl) fun cdv A outer s H vs Q E hr => ?_
  refine ⟨_, (pss_cons (ps_set (i := 0) nd rfl (.inl rfl) (pe_lst (pa_cons pe_int (pa_cons pe_int pa_nil))))
    (pss_cons (ps_while (passes_of rfl) (pt_cmpR op_lt (pe_callB call_len_seq (by rfl) T.b_len (by decide +kernel) (pa_cons (pv 0) pa_nil)) pe_int (nomark _)) (pss_one (ps_expr (pe_bm PySem.F.plainAttrs_list PySem.F.slot_list_append PySem.F.type_list_append mt_append (pv 0) (pa_cons (pe_op op_add (pe_ix ix_list (pv 0) (pe_un un_neg pe_int) (fun _ _ => rfl)) (pe_ix ix_list (pv 0) (pe_un un_neg pe_int) (fun _ _ => rfl))) pa_nil)))))
    (pss_one (ps_ret (pv 0))))), fun G ds o e rp h q => ?_⟩
  obtain ⟨rfl, rfl⟩ := h
  cases rp
  refine q_asgL (el_lst (Evl.ea_cons ev_c (Evl.ea_cons ev_c Evl.ea_nil)) (by decide)) fun p H1 hp x1 e1 => ?_
  refine q_while (fun m σ' H' => m ≤ 99 ∧ σ' = [some (.ref p)] ∧ Ex H H' ∧ H' p = some (.lst ((fws (101 - m)).map V.int))) 99 ⟨by decide, rfl, x1, e1⟩ fun m σ' H' ⟨hm, es, x2, e2⟩ => ?_
  subst es
  have rl : Rp H' (.ref p) (.list ((fws (101 - m)).map .int)) := .lst e2 (RpA.ofInts _)
  have len : ((fws (101 - m)).map PyData.int).length = 101 - m := by rw [List.length_map, fws_len]
  refine ⟨_, et_of' (ed_i0 (ed_lenL (ed_var rfl rl)) ed_int rfl), fun hb H2 x3 => ?_, fun hb H2 x3 => ?_⟩
  · have hb2 := of_decide_eq_true hb
    rw [len] at hb2
    have m1 : 0 < m := by omega
    have e3 := x3 _ _ e2
    have rl2 := rl.up x3
    refine ⟨fun σ2 H3 => σ2 = [some (.ref p)] ∧ Ex H H3 ∧ H3 p = some (.lst ((fws (101 - (m - 1))).map V.int)), fun σ2 H3 ⟨a, b, c⟩ => ⟨m - 1, by omega, by omega, a, b, c⟩, ?_⟩
    refine s_app e3 (ev_var rfl) ((ed_i0 (d := .int (fw (101 - m - 1) + fw (101 - m - 2))) (i := fw (101 - m - 1)) (j := fw (101 - m - 2)) (ed_ixL (ed_var rfl rl2) (ed_neg ed_int) ?_) (ed_ixL (ed_var rfl rl2) (ed_neg ed_int) ?_) rfl).ev (v := .int (fw (101 - m - 1) + fw (101 - m - 2))) rfl) (by rw [List.length_map, fws_len]; omega) fun H4 x4 => ⟨rfl, (x2.trans (x3.trans x4)).mut hp, ?_⟩
    · rw [atI_neg (j := 101 - m - 1) (by decide) (by rw [len]; omega), List.getElem?_map, fws_at (by omega)]
      rfl
    · rw [atI_neg (j := 101 - m - 2) (by decide) (by rw [len]; omega), List.getElem?_map, fws_at (by omega)]
      rfl
    · rw [upd_same]
      rw [show 101 - (m - 1) = (101 - m) + 1 by omega, fws_succ, List.map_append]
      obtain ⟨k, ek⟩ : ∃ k, 101 - m = k + 2 := ⟨99 - m, by omega⟩
      rw [ek, Int.add_comm]
      rfl
  · have hb2 := of_decide_eq_false hb
    rw [len] at hb2
    have m0 : m = 0 := by omega
    subst m0
    exact d_retNew (E := E) e hp (x2.trans x3) (x3 _ _ e2) (RpA.ofInts _) rfl q
theorem has_law_row : Has P w K mg base "_law_row" ["_law_number"] 2 (spO rLRow) := by
  have nd : (["_law_number", "_law_found", "_law_each", "_law_place"] : List Str).Nodup := by decide +kernel
  refine has_of (N := ["_law_number", "_law_found", "_law_each", "_law_place"]) T.a__law_row ⟨rfl, rfl, rfl, by decide +kernel, rfl, by decide +kernel, by decide +kernel⟩ (fun _ _ ⟨_, e, _⟩ => by rw [e]; rfl) fun cdv A outer s H vs Q E hr => ?_
  refine ⟨_, (pss_cons (ps_set (i := 1) nd rfl (.inl rfl) (pe_lst pa_nil))
    (pss_cons (ps_set (i := 2) nd rfl (.inl rfl) (pe_callH0 (has_law_worths (P := P) (w := w) (base := base) T) (hr.mono (by decide)) (by rfl) passL))
    (pss_cons (ps_for (passes_of rfl) rfl (pi_revR (by rfl) T.b_reversed (prg_1 (by rfl) T.b_range pe_int)) (pg_name (i := 3) nd rfl (Or.inl rfl) (Or.inr rfl)) (pss_one (ps_if (pt_cmpR op_le (pe_ix ix_list (pv 2) (pv 3) (fun _ _ => rfl)) (pv 0) (nomark _)) (pss_cons (ps_expr (pe_bm PySem.F.plainAttrs_list PySem.F.slot_list_append PySem.F.type_list_append mt_append (pv 1) (pa_cons (pv 3) pa_nil)))
    (pss_one (ps_set (i := 0) nd rfl (.inl rfl) (pe_op op_sub (pv 0) (pe_ix ix_list (pv 2) (pv 3) (fun _ _ => rfl)))))) pss_nil)))
    (pss_one (ps_ret (RT.pe_tupRev rfl (by rfl) T.b_tuple (by rfl) T.b_reversed (pv 1))))))), fun G ds o e rp h q => ?_⟩
  obtain ⟨n, rfl, rfl⟩ := h
  obtain ⟨v, rfl, r⟩ := one rp
  cases r
  refine d_newL (ds := []) (Part.refl e) ea_nil (by decide) fun l xs G1 H1 P1 x1 rx e1 g1 h1 => ?_
  cases rx
  refine d_asgP P1 (ed_call ea_nil ⟨rfl, rfl⟩) fun ve G2 H2 p2 re => ?_
  have g2 : G2 l = none := p2.off g1 e1
  have e2 := p2.old _ _ e1
  refine d_forM (its := rvD 100) (P1.trans p2) (ei_revR (j := 100) ed_int ⟨by decide, by decide⟩)
    (fun Gx i σ' H' => ∃ (ks : List Int) (m : Int) (z : Option V), σ' = [some (.int m), some (.ref l), some ve, z] ∧ ks ++ grd (100 - i) m = grd 100 n ∧ ks.length ≤ i ∧ Part G H Gx H' ∧ Ex G2 Gx ∧ Gx l = none ∧ H' l = some (.lst (ks.map V.int)))
    (fun Gx H6 p => ⟨[], n, _, rfl, rfl, Nat.le_refl 0, (P1.trans p2).trans p, p.ext, p.off g2 e2, p.old _ _ e2⟩) (fun Gx i σ' H' _ ⟨_, _, _, _, _, _, q, _⟩ => q.sub) (fun Gx i x σ' H6 H7 hi x6 pv y => ?_) fun Gx σ' H6 x6 pv => ?_
  · obtain ⟨ks, m, z, rfl, hk, hl, P6, x26, g6, e6⟩ := pv
    obtain ⟨G7, d, p7, i7, r7⟩ := y Gx (Ex.refl Gx) P6.sub
    rw [rvD_len] at hi
    rw [rvD_at hi] at i7
    have P7 := P6.on p7.old
    have e7 := p7.old _ _ e6
    obtain ⟨j, hj⟩ : ∃ j : Nat, 100 - i = j + 1 := ⟨99 - i, by omega⟩
    have r8 : Rp G7 x (.int (j : Int)) := by
      rw [show (j : Int) = ((100 : Nat) : Int) - 1 - (i : Int) by omega]
      cases i7
      exact r7
    cases r8
    rw [hj, grd_turn] at hk
    have ix : ∀ {H' : Hp}, EvD (tOp (rIxL K) (tVar 2) (tVar 3)) [some (.int m), some (.ref l), some ve, some (.int (j : Int))] Gx (.int (fw j)) := fun {H'} => by
      refine ed_ixL (i := (j : Int)) (ed_var rfl (re.up x26)) (ed_var rfl (.int _)) ?_
      rw [atI_pos (by omega), Int.toNat_natCast, List.getElem?_map, fws_at (by omega)]
      rfl
    refine d_if1 P7 (et_of' (ed_i0 (d := .bool (decide (fw j ≤ m))) (ix (H' := H7)) (ed_var rfl (.int _)) rfl)) (fun hb H8 P8 x8 => ?_) fun hb H8 P8 x8 => ?_
    · rw [if_pos (of_decide_eq_true hb)] at hk
      refine s_app (x8 _ _ e7) (ev_var rfl) (ev_var (v := .int (j : Int)) rfl) (by rw [List.length_map]; omega) fun H9 x9 => ?_
      have P9 := (P8.on x9).mut (o := .lst (ks.map V.int ++ [.int (j : Int)])) g6 h1
      refine d_asg1S (v := .int (m - fw j)) P9 (d := .int (m - fw j)) (ed_i0 (ed_var rfl (.int m)) (ix (H' := H7)) rfl) rfl fun H10 P10 x10 => ?_
      refine ⟨ks ++ [(j : Int)], m - fw j, _, rfl, ?_, ?_, P10, x26, g6, ?_⟩
      · rw [show 100 - (i + 1) = j by omega, List.append_assoc]
        exact hk
      · rw [List.length_append]
        show ks.length + 1 ≤ i + 1
        omega
      · rw [List.map_append]
        exact x10 _ _ upd_same
    · rw [if_neg (of_decide_eq_false hb)] at hk
      exact ⟨ks, m, _, rfl, by rw [show 100 - (i + 1) = j by omega]; exact hk, by omega, P8, x26, g6, x8 _ _ e7⟩
  · obtain ⟨ks, m, z, rfl, hk, hl, P6, x26, g6, e6⟩ := pv
    rw [rvD_len] at hk
    have hk2 : ks = grd 100 n := by rw [← hk]; exact (List.append_nil ks).symm
    subst hk2
    have P8 := P6.take g6 h1 e6
    refine d_retD (E := E) P8 ((ed_tupRev (ds := (grd 100 n).map .int) (ed_var rfl (.lst upd_same (RpA.ofInts _)))).is ?_) q
    rw [← List.map_reverse]
    rfl
theorem has_law_word : Has P w K mg base "_law_word" ["_law_e"] 1 (spH (rWord T.er)) := by
  have nd : (["_law_e", "_law_words", "_law_told", "_law_word_here", "_law_good"] : List Str).Nodup := by decide +kernel
  refine has_ofH (N := ["_law_e", "_law_words", "_law_told", "_law_word_here", "_law_good"]) T.a__law_word ⟨rfl, rfl, rfl, by decide +kernel, rfl, by decide +kernel, by decide +kernel⟩ (fun _ _ _ ⟨_, _, _, e, _⟩ => by rw [e]; rfl) fun cdv A outer s H vs Q E hr => ?_
  refine ⟨_, (pss_cons (ps_set (i := 1) nd rfl (.inl rfl) (pe_lst (pa_cons (pe_tup (pa_cons pe_str (pa_cons (pe_callB LmExc.call_isErr (by rfl) T.b_isinstance (by decide +kernel) (pa_cons (pv 0) (pa_cons (pe_cls (by rfl) T.er.g0) pa_nil))) pa_nil))) (pa_cons (pe_tup (pa_cons pe_str (pa_cons (pe_callB LmExc.call_isErr (by rfl) T.b_isinstance (by decide +kernel) (pa_cons (pv 0) (pa_cons (pe_cls (by rfl) T.er.g1) pa_nil))) pa_nil))) (pa_cons (pe_tup (pa_cons pe_str (pa_cons (pe_callB LmExc.call_isErr (by rfl) T.b_isinstance (by decide +kernel) (pa_cons (pv 0) (pa_cons (pe_cls (by rfl) T.er.g2) pa_nil))) pa_nil))) pa_nil)))))
    (pss_cons (ps_set (i := 1) nd rfl (.inl rfl) (pe_op op_cat (pv 1) (pe_lst (pa_cons (pe_tup (pa_cons pe_str (pa_cons (pe_callB LmExc.call_isErr (by rfl) T.b_isinstance (by decide +kernel) (pa_cons (pv 0) (pa_cons (pe_cls (by rfl) T.er.g3) pa_nil))) pa_nil))) (pa_cons (pe_tup (pa_cons pe_str (pa_cons (pe_callB LmExc.call_isErr (by rfl) T.b_isinstance (by decide +kernel) (pa_cons (pv 0) (pa_cons (pe_cls (by rfl) T.er.g4) pa_nil))) pa_nil))) pa_nil)))))
    (pss_cons (ps_set (i := 1) nd rfl (.inl rfl) (pe_op op_cat (pv 1) (pe_lst (pa_cons (pe_tup (pa_cons pe_str (pa_cons (pe_callB LmExc.call_isErr (by rfl) T.b_isinstance (by decide +kernel) (pa_cons (pv 0) (pa_cons (pe_cls (by rfl) T.er.g5) pa_nil))) pa_nil))) pa_nil))))
    (pss_cons (ps_setLc (i := 2) (own := [("_law_word_here", 3), ("_law_good", 4)]) (g := (gTup K 2 (gCons (gName 3) (gCons (gName 4) gNil)))) (tt := (tB (tVar 4))) (te := (tVar 3)) rfl nd rfl rfl (sw_true rfl rfl rfl (by decide +kernel)) (pi_list (pv 1)) (blkOk_by (own := [("_law_word_here", 3), ("_law_good", 4)]) (N := ["_law_e", "_law_words", "_law_told", "_law_word_here", "_law_good"]) (sc := defScope (topS 23)) (by decide +kernel)) (fun _ _ _ _ _ => (pg_tup rfl (pgs_cons (pg_name (i := 3) nd rfl (Or.inl rfl) (Or.inr rfl)) (pgs_cons (pg_name (i := 4) nd rfl (Or.inl rfl) (Or.inr rfl)) pgs_nil)))) (fun _ _ _ _ _ => (pts_one (pt_val (pv 4)))) (fun _ _ _ _ _ => (pv 3)))
    (pss_cons (ps_if (PW.pt (pw_or (pt_cmpR (op_neD hr.units) (pe_callB call_len_seq (by rfl) T.b_len (by decide +kernel) (pa_cons (pv 2) pa_nil)) pe_int (nomark _)) (pw_or1 (pt_not (pt_val (pe_callB LmExc.call_isErr (by rfl) T.b_isinstance (by decide +kernel) (pa_cons (pv 0) (pa_cons (pe_bltn (v := .ty "ValueError") (u := .type "ValueError") (by rfl) T.b_ValueError (by decide +kernel) rfl) pa_nil)))))))) (pss_one (ps_ret pe_str)) pss_nil)
    (pss_one (ps_ret (pe_ix ix_list (pv 2) pe_int (fun _ _ => rfl))))))))), fun G ds o e rp h q => ?_⟩
  obtain ⟨a, i, hi, rfl, hG, rfl⟩ := h
  obtain ⟨v, rfl, r⟩ := one rp
  have row : ∀ (σ : L2.St) (G' : Hp) (j : Nat) (s : Str), j < 6 → Ex G G' → σ[0]? = some (some v) → EvD (tTup (tCons (tC (.str s)) (tCons (tCB (LmExc.rIsErr K) (tCons (tVar 0) (tCons (tC (.ref (T.er.c j))) tNil))) tNil))) σ G' (.tuple [.str s, .bool (decide (i = j))]) := fun σ G' j s hj e' hv =>
    ed_tup (ea_cons ed_str (ea_cons (ed_isErr (ed_var hv (r.up e')) ev_c (e' _ _ hG) (T.er.q i hi) (T.er.kit i j hi hj)) ea_nil)) (by show 2 ≤ 100000; decide)
  refine d_asg (Part.refl e) (ed_lst (ea_cons (row _ G 0 "NoPile" (by decide) (Ex.refl G) rfl) (ea_cons (row _ G 1 "NoRow" (by decide) (Ex.refl G) rfl) (ea_cons (row _ G 2 "NoMove" (by decide) (Ex.refl G) rfl) ea_nil))) (by show 3 ≤ 100000; decide)) fun v1 G1 H1 P1 x1 y1 r1 => ?_
  refine d_asg P1 (ed_catL (ed_var rfl r1) (ed_lst (ea_cons (row _ G1 3 "TooGreat" (by decide) x1 rfl) (ea_cons (row _ G1 4 "Below" (by decide) x1 rfl) ea_nil)) (by show 2 ≤ 100000; decide)) (by show 5 ≤ 100000; decide)) fun v2 G2 H2 P2 x2 y2 r2 => ?_
  refine d_asg P2 (ed_catL (ed_var rfl r2) (ed_lst (ea_cons (row _ G2 5 "NoText" (by decide) (x1.trans x2) rfl) ea_nil) (by show 1 ≤ 100000; decide)) (by show 6 ≤ 100000; decide)) fun v3 G3 H3 P3 x3 y3 r3 => ?_
  have r3' : Rp G3 v3 (.list (wordsD i)) := r3
  refine d_asg P3 (ed_lc wordsF wordsW (ei_list (ed_var rfl r3')) (by show 6 ≤ 100000; decide) (turn_two (fun d hd => ?_) (fun _ _ => rfl) (fun k a b x y G' e' hk ra rb => ?_) fun k a b x y G' e' hk ra rb _ => ?_)) fun v4 G4 H4 P4 x4 y4 r4 => ?_
  · obtain ⟨s, b, rfl⟩ := words_pair hd
    exact ⟨_, _, rfl⟩
  · obtain ⟨s, b', e1⟩ := words_pair (List.mem_of_getElem? hk)
    cases e1
    exact et_of (ed_var rfl rb)
  · exact ed_var rfl ra
  · rw [words_one hi] at r4
    refine d_when P4 (et_or (et_of' (ed_ne (ed_lenL (ed_var rfl r4)) ed_int (shaped_int _) (shaped_int _))) fun _ => et_not (et_of (ed_isErrT (ed_var rfl (r.up (x1.trans (x2.trans (x3.trans x4))))) ev_c ((x1.trans (x2.trans (x3.trans x4))) _ _ hG) (T.er.q i hi) (T.er.kitV i hi)))) (fun hb H5 P5 x5 => ?_) fun hb H5 P5 x5 => ?_
    · cases hb
    · exact d_retD (E := E) P5 (ed_ixL (ed_var rfl r4) ed_int rfl) q
theorem has_law_tried : Has P w K mg base "_law_tried" ["_law_deed", "_law_things"] (5 + 1) (spT P w base T.er 5) := by
  have nd : (["_law_deed", "_law_things", "_law_told", "_law_caught", "_law_e"] : List Str).Nodup := by decide +kernel
  refine has_ofG (N := ["_law_deed", "_law_things", "_law_told", "_law_caught", "_law_e"]) T.a__law_tried ⟨rfl, rfl, rfl, by decide +kernel, rfl, by decide +kernel, by decide +kernel⟩ (fun _ _ _ _ ⟨_, _, _, _, e, _⟩ => by rw [e]; rfl) fun cdv A outer s H vs Q E hr => ?_
  refine ⟨_, pss_cons (ps_set (i := 2) nd rfl (.inl rfl) pe_non)
    (pss_cons (ps_set (i := 3) nd rfl (.inl rfl) pe_non)
    (pss_cons (LmExc.ps_try_held (i := 4) (tb := fun W => tIfS (tTest (tOp (rEqD K) (tCB (rLenS K) (tCons (tVar 1) tNil)) (tC (.int 1))))
        (tAsg (tCallP P w K mg base 5 0 (WE W) (tCons (tOp (rIxL K) (tVar 1) (tC (.int 0))) tNil)) (gName 2))
        (tAsg (tCallP P w K mg base 5 0 (WE W) (tCons (tOp (rIxL K) (tVar 1) (tC (.int 0))) (tCons (tOp (rIxL K) (tVar 1) (tC (.int 1))) tNil))) (gName 2)))
        (ts := fun _ => tAsg (tVar 4) (gName 3)) rfl rfl rfl nd rfl rfl ⟨rfl, by decide, .inl T.er.gM⟩
        (fun W pn xe tk _ => pss_one (ps_if (pt_cmpR (op_eqD hr.units) (pe_callB call_len_seq (by rfl) T.b_len (by decide +kernel) (pa_cons (pv 1) pa_nil)) pe_int (nomark _))
          (pss_one (ps_set (i := 2) nd rfl (.inl rfl) (pe_callP hr (by rfl) (.inl rfl) (fun σ => passAt tk σ) (pa_cons (pe_ix ix_list (pv 1) pe_int (fun _ _ => rfl)) pa_nil))))
          (pss_one (ps_set (i := 2) nd rfl (.inl rfl) (pe_callP hr (by rfl) (.inl rfl) (fun σ => passAt tk σ) (pa_cons (pe_ix ix_list (pv 1) pe_int (fun _ _ => rfl)) (pa_cons (pe_ix ix_list (pv 1) pe_int (fun _ _ => rfl)) pa_nil)))))))
        (fun a pn => pss_one (ps_set (i := 3) nd rfl (.inl rfl) (pv 4))))
    (pss_cons (ps_if (pt_cmpR op_isN1 (pv 3) pe_non (nomark _)) (pss_one (ps_ret (pv 2))) pss_nil)
    (pss_one (ps_ret (pe_callH (has_law_word (P := P) (w := w) (base := base) T) (hr.mono (by decide)) (by rfl) passL (pa_cons (pv 3) pa_nil))))))), fun h => ?_⟩
  exact tried_end (by obtain ⟨_, _, _, _, rfl, _⟩ := h; rfl) h
theorem has_law_numbers : Has P w K mg base "_law_numbers" ["_law_script"] 3 (spH (rLNums K)) := by
  have nd : (["_law_script", "_law_found", "_law_k", "_law_cell", "_law_number", "_law_one", "_law_each"] : List Str).Nodup := by decide +kernel
  refine has_ofH (N := ["_law_script", "_law_found", "_law_k", "_law_cell", "_law_number", "_law_one", "_law_each"]) T.a__law_numbers ⟨rfl, rfl, rfl, by decide +kernel, rfl, by decide +kernel, by decide +kernel⟩ (fun _ _ _ ⟨_, _, e, _⟩ => by rw [e]; rfl) fun cdv A outer s H vs Q E hr => ?_
  refine ⟨_, (pss_cons (ps_set (i := 1) nd rfl (.inl rfl) (pe_lst pa_nil))
    (pss_cons (ps_for (passes_of rfl) rfl (pi_enum (by rfl) T.b_enumerate (pa_cons (pe_slice sl_list (pv 0) po_none (po_some pe_int)) pa_nil)) (pg_tup rfl (pgs_cons (pg_name (i := 2) nd rfl (Or.inl rfl) (Or.inr rfl)) (pgs_cons (pg_name (i := 3) nd rfl (Or.inl rfl) (Or.inr rfl)) pgs_nil))) (pss_cons (ps_set (i := 4) nd rfl (.inl rfl) (pe_callH (has_law_mix (P := P) (w := w) (base := base) T) (hr.mono (by decide)) (by rfl) passL (pa_cons (pv 3) (pa_cons (pe_op op_add pe_int (pv 2)) pa_nil))))
    (pss_cons (ps_set (i := 5) nd rfl (.inl rfl) (pe_op op_mod (pe_op op_mul (pe_op op_mul (pe_op op_fdiv (pv 4) pe_int) pe_int) pe_int) (pe_op op_pow pe_int pe_int)))
    (pss_cons (ps_if (PW.pt (pw_and (pt_cmpR (op_neD hr.units) (pv 1) (pe_lst pa_nil) (nomark _)) (pw_and1 (pt_cmpR (op_eqD hr.units) (pe_op op_mod (pv 4) pe_int) pe_int (nomark _))))) (pss_one (ps_set (i := 5) nd rfl (.inl rfl) (pe_callB (call_max2 rfl) (by rfl) T.b_max (by decide +kernel) (pa_cons pe_int (pa_cons (pe_op op_sub (pe_op op_add (pe_ix ix_list (pv 1) (pe_un un_neg pe_int) (fun _ _ => rfl)) (pe_op op_mod (pe_op op_fdiv (pv 4) pe_int) pe_int)) pe_int) pa_nil))))) pss_nil)
    (pss_cons (ps_if (PW.pt (pw_and (pt_cmpR (op_neD hr.units) (pv 1) (pe_lst pa_nil) (nomark _)) (pw_and1 (pt_cmpR (op_eqD hr.units) (pe_op op_mod (pv 4) pe_int) pe_int (nomark _))))) (pss_cons (ps_set (i := 6) nd rfl (.inl rfl) (pe_ix ix_list (pe_callH0 (has_law_worths (P := P) (w := w) (base := base) T) (hr.mono (by decide)) (by rfl) passL) (pe_op op_mod (pe_op op_fdiv (pv 4) pe_int) pe_int) (fun _ _ => rfl)))
    (pss_one (ps_set (i := 5) nd rfl (.inl rfl) (pe_op op_add (pe_op op_mul (pe_op op_fdiv (pe_ix ix_list (pv 1) (pe_un un_neg pe_int) (fun _ _ => rfl)) (pv 6)) (pv 6)) (pe_op op_mod (pe_op op_fdiv (pv 4) pe_int) pe_int))))) pss_nil)
    (pss_one (ps_expr (pe_bm PySem.F.plainAttrs_list PySem.F.slot_list_append PySem.F.type_list_append mt_append (pv 1) (pa_cons (pv 5) pa_nil)))))))))
    (pss_one (ps_ret (pv 1))))), fun G ds o e rp h q => ?_⟩
  obtain ⟨a, ns, rfl, hS, hz, rfl⟩ := h
  obtain ⟨v, rfl, r⟩ := one rp
  cases r
  refine d_newL (ds := []) (Part.refl e) ea_nil (by decide) fun l xs G1 H1 P1 x1 rx e1 g1 h1 => ?_
  cases rx
  have hS1 := ex_l (K := K) x1 hS
  have tl : (ns.take 40).length ≤ 40 := by
    rw [List.length_take]
    omega
  refine d_forEnM (ns := ns.take 40) P1 (ei_enum (ed_slS (ev_var rfl) eo_none (eo_some (ev_c (v := .int 40))) hS1 (cutV_pre ns 40)))
    (fun Gx k σ' H' => ∃ x y z u t, σ' = [some (.ref a), some (.ref l), x, y, z, u, t] ∧ Part G H Gx H' ∧ Gx l = none ∧ H' l = some (.lst ((numsF (ns.take 40) k).map V.int)))
    (fun Gx H6 p => ⟨_, _, _, _, _, rfl, P1.trans p, p.off g1 e1, p.old _ _ e1⟩) (fun Gx k σ' H' ⟨_, _, _, _, _, _, q, _⟩ => q) (fun Gx k c σ' H5 H6 hk hc xe hC x56 _ => ?_) fun Gx σ' H6 xe hC => ?_
  · obtain ⟨x, y, z, u, t, rfl, P5, gl, e5⟩ := hC
    have P6 := P5.on x56
    have e6 := x56 _ _ e5
    refine d_asgS P6 (d := .int (mixI c (7 + (k : Nat)))) (ed_call (ea_cons (ed_var rfl (.int c)) (ea_cons (ed_0I ed_int (ed_var rfl (.int _))) ea_nil)) ⟨_, _, rfl, by omega, by omega, rfl⟩) rfl fun H7 P7 x7 => ?_
    have st : numsF (ns.take 40) (k + 1) = numsF (ns.take 40) k ++ [numStep (numsF (ns.take 40) k) (mixI c (7 + (k : Nat)))] := by
      rw [hc]
      rfl
    have fl := numsF_len (ns.take 40) k
    generalize numsF (ns.take 40) k = fs at e6 st fl
    have m0 := mixI_nn c (7 + (k : Nat))
    generalize mixI c (7 + (k : Nat)) = m at m0 st ⊢
    have d8 : ∀ {σ : L2.St} {G' : Hp}, σ[4]? = some (some (.int m)) → EvD (tOp (rI CDiv fun i j => .int (i / j)) (tVar 4) (tC (.int 8))) σ G' (.int (m / 8)) := fun h => ed_iI (ed_var h (.int m)) ed_int ⟨by decide, by decide⟩
    have d4 : ∀ {σ : L2.St} {G' : Hp} (i : Int), σ[4]? = some (some (.int m)) → EvT (tTest (tOp (rEqD K) (tOp (rI (fun _ j => 0 < j) fun i j => .int (i % j)) (tVar 4) (tC (.int 4))) (tC (.int i)))) σ G' (decide (m % 4 = i)) := fun i h => et_of' ((ed_eq (ed_iI (ed_var h (.int m)) ed_int (by decide)) ed_int (shaped_int _) (shaped_int _)).is (by rw [eqv_intI]))
    refine d_asgS P7 (d := .int (m / 8 * 48271 * 48271 % 10 ^ 20)) (ed_iI (ed_iI (ed_iI (d8 rfl) ed_int (.inr (by decide))) ed_int (.inr (by decide))) (ed_iI ed_int ed_int ⟨by decide, by decide, by decide⟩) (by decide)) rfl fun H8 P8 x8 => ?_
    have e8 := (x7.trans x8) _ _ e6
    have PT : Part G H (upd Gx l (.lst (fs.map V.int))) H8 := P8.take gl h1 e8
    have rl : Rp (upd Gx l (.lst (fs.map V.int))) (.ref l) (.list (fs.map .int)) := .lst upd_same (RpA.ofInts fs)
    have ne0 : ∀ {σ : L2.St}, σ[1]? = some (some (.ref l)) → EvT (tTest (tOp (rNeD K) (tVar 1) (tLst tNil))) σ (upd Gx l (.lst (fs.map V.int))) (!decide (fs = [])) := fun h => et_of' ((ed_ne (e := .list (([] : List Int).map .int)) (ed_var h rl) (ed_lst ea_nil (by decide)) (shaped_lst fs) (shaped_lst [])).is (by rw [eqv_lst2]))
    have lst : ∀ {σ : L2.St}, ¬ fs = [] → σ[1]? = some (some (.ref l)) → EvD (tOp (rIxL K) (tVar 1) (tUn (rU fun i => .int (-i)) (tC (.int 1)))) σ (upd Gx l (.lst (fs.map V.int))) (.int (fs.getLastD 0)) := fun {σ} hn h => by
      have hl : 0 < fs.length := List.length_pos_iff.mpr hn
      refine ed_ixL (i := -1) (ed_var h rl) (ed_neg ed_int) ?_
      rw [atI_neg (j := fs.length - 1) (by decide) (by rw [List.length_map]; omega), List.getElem?_map, ← List.getLast?_eq_getElem?, List.getLast?_eq_some_getLast hn, List.getLastD_eq_getLast?, List.getLast?_eq_some_getLast hn]
      rfl
    have fin : ∀ {D : Ends} {o : Int} {σ : L2.St} {H' : Hp} {s6 : Option V}, Ex H8 H' → o = numStep fs m → (∀ σ2 H2, (∃ x y z u t, σ2 = [some (.ref a), some (.ref l), x, y, z, u, t] ∧ Part G H Gx H2 ∧ Gx l = none ∧ H2 l = some (.lst ((numsF (ns.take 40) (k + 1)).map V.int))) → D.nx σ2 H2) → σ = [some (.ref a), some (.ref l), some (.int (k : Nat)), some (.int c), some (.int m), some (.int o), s6] →
        tDrop (tBM K "list" rAppend (tVar 1) (tCons (tVar 5) tNil)) D σ H' := fun {D o σ H' s6} xx ho hN es => by
      subst es
      subst ho
      refine s_app (xx _ _ e8) (ev_var rfl) (ev_var (v := .int (numStep fs m)) rfl) (by rw [List.length_map]; omega) fun H9 x9 => hN _ _ ⟨_, _, _, _, _, rfl, ((P8.on xx).on x9).mut gl h1, gl, ?_⟩
      rw [upd_same, st, List.map_append]
      rfl
    by_cases c1 : ¬ fs = [] ∧ m % 4 = 1
    · have t1 : (!decide (fs = []) && decide (m % 4 = 1)) = true := by
        rw [decide_eq_false c1.1, decide_eq_true c1.2]
        rfl
      refine d_when PT (b := true) (et_is (et_and (ne0 rfl) fun _ => d4 1 rfl) t1) (fun _ H9 P9 x9 => ?_) (fun hb => by cases hb)
      refine d_asg1S P9 (ed_max2 ed_int (ed_0I (ed_0I (lst c1.1 rfl) (ed_iI (d8 rfl) ed_int (by decide))) ed_int)) rfl fun H10 P10 x10 => ?_
      refine d_when P10 (b := false) (et_is (et_and (ne0 rfl) fun _ => d4 2 rfl) (by rw [decide_eq_false (show ¬ m % 4 = 2 by omega), Bool.and_false])) (fun hb => by cases hb) (fun _ H11 P11 x11 => ?_)
      refine fin (x9.trans (x10.trans x11)) ?_ (fun _ _ h => h) rfl
      unfold numStep
      rw [if_pos c1]
    · have t1 : (!decide (fs = []) && decide (m % 4 = 1)) = false := by
        by_cases z : fs = []
        · rw [decide_eq_true z]
          rfl
        · rw [decide_eq_false (show ¬ m % 4 = 1 from fun y => c1 ⟨z, y⟩), Bool.and_false]
      refine d_when PT (b := false) (et_is (et_and (ne0 rfl) fun _ => d4 1 rfl) t1) (fun hb => by cases hb) (fun _ H9 P9 x9 => ?_)
      by_cases c2 : ¬ fs = [] ∧ m % 4 = 2
      · have t2 : (!decide (fs = []) && decide (m % 4 = 2)) = true := by
          rw [decide_eq_false c2.1, decide_eq_true c2.2]
          rfl
        have w0 : 0 ≤ m / 8 % 40 := Int.emod_nonneg _ (by decide)
        have w1 : m / 8 % 40 < 40 := Int.emod_lt_of_pos _ (by decide)
        obtain ⟨f0, f1⟩ := fw40 (j := (m / 8 % 40).toNat) (by omega)
        refine d_when P9 (b := true) (et_is (et_and (ne0 rfl) fun _ => d4 2 rfl) t2) (fun _ H10 P10 x10 => ?_) (fun hb => by cases hb)
        refine d_asgS P10 (d := .int (fw (m / 8 % 40).toNat)) (ed_ixL (i := m / 8 % 40) (ed_call ea_nil ⟨rfl, rfl⟩) (ed_iI (d8 rfl) ed_int (by decide)) ?_) rfl fun H11 P11 x11 => ?_
        · rw [atI_pos w0, List.getElem?_map, fws_at (by omega)]
          rfl
        refine d_asg1S P11 (ed_0I (ed_iI (ed_iI (lst c2.1 rfl) (ed_var rfl (.int _)) ⟨f0, f1⟩) (ed_var rfl (.int _)) (.inr ⟨by omega, by omega⟩)) (ed_iI (d8 rfl) ed_int (by decide))) rfl fun H12 P12 x12 => ?_
        refine fin (x9.trans (x10.trans (x11.trans x12))) ?_ (fun _ _ h => h) rfl
        unfold numStep
        rw [if_neg c1, if_pos c2]
      · have t2 : (!decide (fs = []) && decide (m % 4 = 2)) = false := by
          by_cases z : fs = []
          · rw [decide_eq_true z]
            rfl
          · rw [decide_eq_false (show ¬ m % 4 = 2 from fun y => c2 ⟨z, y⟩), Bool.and_false]
        refine d_when P9 (b := false) (et_is (et_and (ne0 rfl) fun _ => d4 2 rfl) t2) (fun hb => by cases hb) (fun _ H10 P10 x10 => ?_)
        refine fin (x9.trans x10) ?_ (fun _ _ h => h) rfl
        unfold numStep
        rw [if_neg c1, if_neg c2]
  · obtain ⟨x, y, z, u, t, rfl, P5, gl, e5⟩ := hC
    have PT := P5.take gl h1 e5
    exact d_retD (E := E) PT (ed_var rfl (.lst upd_same (RpA.ofInts _))) q
theorem has_law_put_in : Has P w K mg base "_law_put_in" ["_law_rows", "_law_row_here"] 6 (spO rLPut) := by
  have nd : (["_law_rows", "_law_row_here", "_law_at"] : List Str).Nodup := by decide +kernel
  refine has_of (N := ["_law_rows", "_law_row_here", "_law_at"]) T.a__law_put_in ⟨rfl, rfl, rfl, by decide +kernel, rfl, by decide +kernel, by decide +kernel⟩ (fun _ _ ⟨_, _, e, _⟩ => by rw [e]; rfl) fun cdv A outer s H vs Q E hr => ?_
  refine ⟨_, (pss_cons (ps_set (i := 2) nd rfl (.inl rfl) pe_int)
    (pss_cons (ps_while (passes_of rfl) (PW.pt (pw_and (pt_cmpR op_lt (pv 2) (pe_callB call_len_seq (by rfl) T.b_len (by decide +kernel) (pa_cons (pv 0) pa_nil)) (nomark _)) (pw_and1 (pt_cmpR op_lt (pe_callH (has_compare (P := P) (w := w) (base := base) T) (hr.mono (by decide)) (by rfl) passL (pa_cons (pe_ix ix_list (pv 0) (pv 2) (fun _ _ => rfl)) (pa_cons (pv 1) pa_nil))) pe_int (nomark _))))) (pss_one (ps_set (i := 2) nd rfl (.inl rfl) (pe_op op_add (pv 2) pe_int))))
    (pss_one (ps_ret (pe_op op_cat (pe_op op_cat (pe_slice sl_list (pv 0) po_none (po_some (pv 2))) (pe_lst (pa_cons (pv 1) pa_nil))) (pe_slice sl_list (pv 0) (po_some (pv 2)) po_none)))))), fun G ds o e rp h q => ?_⟩
  obtain ⟨xs, n, rfl, hz, hn, hx, rfl⟩ := h
  obtain ⟨v1, v2, rfl, r1, r2⟩ := two rp
  refine d_asgS (v := .int 0) (Part.refl e) ed_int rfl fun H1 P1 y1 => ?_
  refine q_while (fun m σ' H' => ∃ i : Nat, m = xs.length - i ∧ i ≤ xs.length ∧ (∀ x ∈ xs.take i, x < n) ∧ σ' = [some v1, some v2, some (.int (i : Nat))] ∧ Part G H G H') xs.length ⟨0, rfl, Nat.zero_le _, (fun x hx => by cases hx), rfl, P1⟩ fun m σ' H' W => ?_
  obtain ⟨i, rfl, hi, hlt, rfl, P2⟩ := W
  refine ⟨decide (i < xs.length) && decide (xs.getD i 0 < n), et_upq (et_and (et_is (et_of' (ed_i0 (d := .bool (decide ((i : Int) < (xs.length : Nat)))) (ed_var rfl (.int (i : Nat))) ((ed_lenL (ed_var rfl r1)).is (by rw [List.length_map])) rfl)) (decide_eq_decide.mpr (by omega))) fun hb => et_is (et_of' (ed_i0 (d := .bool (decide (sgnI (xs.getD i 0) n < 0))) (ed_call (ea_cons (ed_ixL (i := (i : Nat)) (d := rowD (xs.getD i 0)) (ed_var rfl r1) (ed_var rfl (.int _)) ?_) (ea_cons (ed_var rfl r2) ea_nil)) (row_cmp ?_ hn)) ed_int rfl)) ?_) P2.sub, fun hb H4 x4 => ?_, fun hb H4 x4 => ?_⟩
  · have hl : i < xs.length := of_decide_eq_true hb
    rw [atI_pos (by omega), Int.toNat_natCast, List.getElem?_map, List.getElem?_eq_getElem hl, List.getD_eq_getElem?_getD, List.getElem?_eq_getElem hl]
    rfl
  · have hl : i < xs.length := of_decide_eq_true hb
    refine hx _ ?_
    rw [List.getD_eq_getElem?_getD, List.getElem?_eq_getElem hl]
    exact List.getElem_mem _
  · refine decide_eq_decide.mpr ?_
    unfold sgnI
    split
    · omega
    · split <;> omega
  · rw [Bool.and_eq_true] at hb
    have hl : i < xs.length := of_decide_eq_true hb.1
    have hv : xs.getD i 0 < n := of_decide_eq_true hb.2
    refine ⟨fun σ2 H2 => ∃ m', m' < xs.length - i ∧ ∃ i : Nat, m' = xs.length - i ∧ i ≤ xs.length ∧ (∀ x ∈ xs.take i, x < n) ∧ σ2 = [some v1, some v2, some (.int (i : Nat))] ∧ Part G H G H2, fun σ2 H2 h => h, ?_⟩
    refine d_asg1S (P2.on x4) (d := .int ((i + 1 : Nat) : Int)) ((ed_0I (ed_var rfl (.int (i : Nat))) ed_int).is (by congr 1)) rfl fun H5 P5 x5 => ⟨xs.length - (i + 1), by omega, i + 1, rfl, by omega, fun x hx => ?_, rfl, P5⟩
    rw [List.take_add_one, List.getElem?_eq_getElem hl] at hx
    rcases List.mem_append.mp hx with hx | hx
    · exact hlt x hx
    · have e1 := List.mem_singleton.mp hx
      rw [List.getD_eq_getElem?_getD, List.getElem?_eq_getElem hl] at hv
      rw [e1]
      exact hv
  · have hb2 : i < xs.length → ¬ xs.getD i 0 < n := fun hl hv => by
      rw [decide_eq_true hl, decide_eq_true hv] at hb
      cases hb
    have ei : EvD (tVar 2) [some v1, some v2, some (.int (i : Nat))] G (.int (i : Nat)) := ed_var rfl (.int _)
    refine d_retD (E := E) (P2.on x4) ((ed_catL (ed_catL (ed_slL (ed_var rfl r1) eo_none (eo_some (ei.ev rfl))) (ed_lst (ea_cons (ed_var rfl r2) ea_nil) (by show 1 ≤ 100000; decide)) ?_) (ed_slL (ed_var rfl r1) (eo_some (ei.ev rfl)) eo_none) ?_).is ?_) q
    · rw [cut_to, List.length_take, List.length_map, List.length_singleton]
      omega
    · rw [cut_to, cut_from _ _ (by rw [List.length_map]; exact hi), List.length_append, List.length_take, List.length_drop, List.length_map, List.length_singleton]
      omega
    · rw [cut_to, cut_from _ _ (by rw [List.length_map]; exact hi), ins_at n xs i hi hlt hb2, List.map_append, List.map_append, List.map_take, List.map_drop]
      rfl
end
end K04

set_option maxHeartbeats 4000000
namespace K04
open PySem PySem.Spec PyProof.Rows L2 Evl Lm
section
variable {P : Program} {w : World} {K : PySem.W.Frag} {mg : Str → Option Value} {base : Heap} (T : Txt K mg)
include T
theorem ok_law {fd : FuncData} (F : Fun K "law" "law" (topS 27) T.f_law fd) : FnOk P w K mg base (L2.CX P w) 9 T.f_law fd ["_law_script"] (spLaw K) := by
  have nd : (["_law_script", "_law_numbers_here", "_law_rows", "_law_put", "_law_j", "_law_k", "_law_one", "_law_other", "_law_told", "_law_number"] : List Str).Nodup := by decide +kernel
  refine F.okX (N := ["_law_script", "_law_numbers_here", "_law_rows", "_law_put", "_law_j", "_law_k", "_law_one", "_law_other", "_law_told", "_law_number"]) ⟨rfl, rfl, rfl, by decide +kernel, rfl, by decide +kernel, by decide +kernel⟩ (fun vs H Q E ⟨a, ns, e, _⟩ => by rw [e]; rfl) fun cdv A outer s H vs Q E hr hsp => ?_
  refine ⟨_, (pss_cons (ps_set (i := 1) nd rfl (.inl rfl) (pe_callH (has_law_numbers (P := P) (w := w) (base := base) T) (hr.mono (by decide)) (by rfl) passL (pa_cons (pv 0) pa_nil)))
    (pss_cons (ps_setLc (i := 2) (own := [("_law_number", 9)]) (g := (gName 9)) (tt := tYes) (te := (tCall (spO rLRow) [] E0 (tCons (tVar 9) tNil))) rfl nd rfl rfl (sw_true rfl rfl rfl (by decide +kernel)) (pi_list (pv 1)) (blkOk_by (own := [("_law_number", 9)]) (N := ["_law_script", "_law_numbers_here", "_law_rows", "_law_put", "_law_j", "_law_k", "_law_one", "_law_other", "_law_told", "_law_number"]) (sc := defScope (topS 27)) (by decide +kernel)) (fun _ _ _ _ _ => (pg_name (i := 9) nd rfl (Or.inl rfl) (Or.inr rfl))) (fun _ _ _ _ _ => pts_nil) (fun _ _ _ _ _ => (pe_callH (has_law_row (P := P) (w := w) (base := base) T) (hr.mono (by decide)) (by rfl) passL (pa_cons (pv 9) pa_nil))))
    (pss_cons (ps_set (i := 3) nd rfl (.inl rfl) (pe_lst pa_nil))
    (pss_cons (ps_for (passes_of rfl) rfl (pi_range1 (by rfl) T.b_range (pa_cons (pe_callB call_len_seq (by rfl) T.b_len (by decide +kernel) (pa_cons (pv 2) pa_nil)) pa_nil)) (pg_name (i := 4) nd rfl (Or.inl rfl) (Or.inr rfl)) (pss_cons (ps_for (passes_of rfl) rfl (pi_range1 (by rfl) T.b_range (pa_cons (pe_callB call_len_seq (by rfl) T.b_len (by decide +kernel) (pa_cons (pv 2) pa_nil)) pa_nil)) (pg_name (i := 5) nd rfl (Or.inl rfl) (Or.inr rfl)) (pss_cons (ps_par (by rfl) nd (i := 6) (j := 7) rfl rfl (by decide) rfl rfl (pa_cons (pe_ix ix_list (pv 1) (pv 4) (fun _ _ => rfl)) (pa_cons (pe_ix ix_list (pv 1) (pv 5) (fun _ _ => rfl)) pa_nil)) (by rfl))
    (pss_cons (ps_set (i := 8) nd rfl (.inl rfl) (pe_callH (has_compare (P := P) (w := w) (base := base) T) (hr.mono (by decide)) (by rfl) passL (pa_cons (pe_ix ix_list (pv 2) (pv 4) (fun _ _ => rfl)) (pa_cons (pe_ix ix_list (pv 2) (pv 5) (fun _ _ => rfl)) pa_nil))))
    (pss_one (ps_if (PW.pt (pw_or (pt_cmpR (op_neD hr.units) (pv 8) (pe_op op_sub (pe_callTy call_int1 (by rfl) T.b_int (by decide +kernel) (pa_cons (pe_cmpR op_gt (pv 6) (pv 7) (nomark _)) pa_nil)) (pe_callTy call_int1 (by rfl) T.b_int (by decide +kernel) (pa_cons (pe_cmpR op_lt (pv 6) (pv 7) (nomark _)) pa_nil))) (nomark _)) (pw_or1 (pt_val (pe_callB call_isi (by rfl) T.b_isinstance (by decide +kernel) (pa_cons (pv 8) (pa_cons (pe_bltn (v := .ty "bool") (u := .type "bool") (by rfl) T.b_bool (by decide +kernel) rfl) pa_nil))))))) (pss_one (ps_ret pe_bl)) pss_nil)))))
    (pss_one (ps_set (i := 3) nd rfl (.inl rfl) (pe_callH (has_law_put_in (P := P) (w := w) (base := base) T) (hr.mono (by decide)) (by rfl) passL (pa_cons (pv 3) (pa_cons (pe_ix ix_list (pv 2) (pv 4) (fun _ _ => rfl)) pa_nil)))))))
    (pss_cons (ps_if (pt_cmpR (op_neD hr.units) (pv 3) (pe_lc (own := [("_law_number", 9)]) (g := (gName 9)) (tt := tYes) (te := (tCall (spO rLRow) [] E0 (tCons (tVar 9) tNil))) rfl nd (pi_list (pe_callB cr_sortedI (by rfl) T.b_sorted (by decide +kernel) (pa_cons (pv 1) pa_nil))) (blkOk_by (own := [("_law_number", 9)]) (N := ["_law_script", "_law_numbers_here", "_law_rows", "_law_put", "_law_j", "_law_k", "_law_one", "_law_other", "_law_told", "_law_number"]) (sc := defScope (topS 27)) (by decide +kernel)) (fun _ _ _ _ _ => (pg_name (i := 9) nd rfl (Or.inl rfl) (Or.inr rfl))) (fun _ _ _ _ _ => pts_nil) (fun _ _ _ _ _ => (pe_callH (has_law_row (P := P) (w := w) (base := base) T) (hr.mono (by decide)) (by rfl) passL (pa_cons (pv 9) pa_nil)))) (nomark _)) (pss_one (ps_ret pe_bl)) pss_nil)
    (pss_cons (ps_if (PW.pt (pw_or (pt_cmpR (op_neD hr.units) (pe_callH (has_law_tried (P := P) (w := w) (base := base) T) (hr.mono (by decide)) (by rfl) passL (pa_cons (pe_glob (v := .ref T.f_compare) (by rfl) T.a_compare.g rfl) (pa_cons (pe_lst (pa_cons (pe_tup (pa_cons pe_int (pa_cons pe_int pa_nil))) (pa_cons (pe_tup pa_nil) pa_nil))) pa_nil))) pe_str (nomark _)) (pw_or1 (pt_cmpR (op_neD hr.units) (pe_callH (has_law_tried (P := P) (w := w) (base := base) T) (hr.mono (by decide)) (by rfl) passL (pa_cons (pe_glob (v := .ref T.f_compare) (by rfl) T.a_compare.g rfl) (pa_cons (pe_lst (pa_cons (pe_tup pa_nil) (pa_cons (pe_lst (pa_cons pe_int pa_nil)) pa_nil))) pa_nil))) pe_str (nomark _))))) (pss_one (ps_ret pe_bl)) pss_nil)
    (pss_one (ps_ret (pe_and (pe_cmpR (op_eqD hr.units) (pe_callH (has_compare (P := P) (w := w) (base := base) T) (hr.mono (by decide)) (by rfl) passL (pa_cons (pe_tup pa_nil) (pa_cons (pe_tup pa_nil) pa_nil))) pe_int (nomark _)) (pe_and (pe_cmpR (op_eqD hr.units) (pe_callH (has_compare (P := P) (w := w) (base := base) T) (hr.mono (by decide)) (by rfl) passL (pa_cons (pe_tup pa_nil) (pa_cons (pe_tup (pa_cons pe_int pa_nil)) pa_nil))) (pe_un un_neg pe_int) (nomark _)) (pe_one (pe_cmpR (op_eqD hr.units) (pe_callH (has_compare (P := P) (w := w) (base := base) T) (hr.mono (by decide)) (by rfl) passL (pa_cons (pe_tup (pa_cons pe_int pa_nil)) (pa_cons (pe_tup (pa_cons pe_int (pa_cons pe_int pa_nil))) pa_nil))) pe_int (nomark _))))))))))))), ?_⟩
  obtain ⟨a, ns, rfl, hS, hz, q0⟩ := hsp
  have q : Want (.val (.bool true)) H H Q E := fun v G' H' P' r => by cases r; exact q0 H'
  refine d_asg (G0 := H) (G := H) (Part.refl (Ex.refl H)) (ed_callH (ds := [opq a]) (d := .list ((numsI ns).map .int)) (ea_cons (ed_var rfl (.obj a)) ea_nil) fun G' e' => ⟨a, ns, rfl, ex_l e' hS, hz, rfl⟩) fun v1 G1 H1 P1 x1 y1 r1 => ?_
  have ok := nums_ok ns
  have ln := nums_len ns
  generalize numsI ns = ms at ok ln r1
  have at_ : ∀ {ks : List Int} {i : Nat} {d : PyData}, (ks.map PyData.int)[i]? = some d → ∃ m : Int, d = .int m := fun {ks i d} hi => by
    obtain ⟨m, _, e⟩ := List.mem_map.mp (List.mem_of_getElem? hi)
    exact ⟨m, e.symm⟩
  refine d_asg P1 (d := .list (ms.map rowD)) ((ed_lc (fun _ => true) (fun d => rowD (toI d)) (ei_list (ed_var rfl r1)) (by rw [List.length_map]; omega) (turn_name (fun _ => rfl) (fun _ _ _ _ _ _ _ => et_yes) fun i d x G' e' hi r _ => ?_)).is (by rw [lcD_all, List.map_map]; rfl)) fun v2 G2 H2 P2 x2 y2 r2 => ?_
  · obtain ⟨m, rfl⟩ := at_ hi
    exact ed_call (ea_cons (ed_var rfl r) ea_nil) ⟨m, rfl, rfl⟩
  refine d_asg P2 (d := .list (([] : List Int).map rowD)) (ed_lst ea_nil (by decide)) fun v3 G3 H3 P3 x3 y3 r3 => ?_
  have r1' := r1.up (x2.trans x3)
  have r2' := r2.up x3
  have len : ∀ {σ : L2.St} {G' : Hp}, Ex G3 G' → σ[2]? = some (some v2) → EvD (tCB (rLenS K) (tCons (tVar 2) tNil)) σ G' (.int (ms.length : Nat)) := fun e h => (ed_lenL (ed_var h (r2'.up e))).is (by rw [List.length_map])
  have ixN : ∀ {σ : L2.St} {G' : Hp} {i s : Nat}, Ex G3 G' → i < ms.length → σ[1]? = some (some v1) → σ[s]? = some (some (.int (i : Nat))) → EvD (tOp (rIxL K) (tVar 1) (tVar s)) σ G' (.int (ms.getD i 0)) := fun {σ G' i s} e hi h1 h2 =>
    ed_ixL (i := (i : Nat)) (ed_var h1 (r1'.up e)) (ed_var h2 (.int _)) (by rw [atI_pos (by omega), Int.toNat_natCast, List.getElem?_map, List.getElem?_eq_getElem hi, List.getD_eq_getElem?_getD, List.getElem?_eq_getElem hi]; rfl)
  have ixR : ∀ {σ : L2.St} {G' : Hp} {i s : Nat}, Ex G3 G' → i < ms.length → σ[2]? = some (some v2) → σ[s]? = some (some (.int (i : Nat))) → EvD (tOp (rIxL K) (tVar 2) (tVar s)) σ G' (rowD (ms.getD i 0)) := fun {σ G' i s} e hi h1 h2 =>
    ed_ixL (i := (i : Nat)) (ed_var h1 (r2'.up e)) (ed_var h2 (.int _)) (by rw [atI_pos (by omega), Int.toNat_natCast, List.getElem?_map, List.getElem?_eq_getElem hi, List.getD_eq_getElem?_getD, List.getElem?_eq_getElem hi]; rfl)
  have okA : ∀ {i : Nat}, i < ms.length → OkN (ms.getD i 0) := fun {i} hi => by
    refine ok _ ?_
    rw [List.getD_eq_getElem?_getD, List.getElem?_eq_getElem hi]
    exact List.getElem_mem _
  refine d_forC (its := rgD 0 ms.length) P3 (ei_rng1 (j := (ms.length : Nat)) (len (Ex.refl _) rfl) ⟨by omega, by omega⟩)
    (fun j G' σ' => ∃ v s4 s5 s6 s7 s8 s9, σ' = [some (.ref a), some v1, some v2, some v, s4, s5, s6, s7, s8, s9] ∧ Rp G' v (.list ((putF ms j).map rowD)))
    (fun G' x => ⟨v3, _, _, _, _, _, _, rfl, r3.up x⟩) (fun j d x σ' G' H' N hj xe P' rx hC hN => ?_) (fun k σ' Ga Gb ⟨v, _, _, _, _, _, _, e, r⟩ x => ⟨v, _, _, _, _, _, _, e, r.up x⟩) fun σ' G' H' hC xe P' => ?_
  · obtain ⟨v, s4, s5, s6, s7, s8, s9, rfl, rv⟩ := hC
    have hj2 : j < ms.length := by
      have := (List.getElem?_eq_some_iff.mp hj).1
      rwa [rgD_len] at this
    rw [rgD_at hj2, Int.zero_add] at hj
    cases hj
    cases rx
    refine d_forL (its := rgD 0 ms.length) P' (ei_rng1 (j := (ms.length : Nat)) (len xe rfl) ⟨by omega, by omega⟩) (fun σ' => ∃ s5 s6 s7 s8 s9, σ' = [some (.ref a), some v1, some v2, some v, some (.int (j : Nat)), s5, s6, s7, s8, s9]) ⟨_, _, _, _, _, rfl⟩ (fun k d x σ' G4 H4 N2 hk x4 P4 rx hC hN2 => ?_) fun σ' G4 H4 hC x4 P4 => ?_
    · obtain ⟨t5, t6, t7, t8, t9, rfl⟩ := hC
      have hk2 : k < ms.length := by
        have := (List.getElem?_eq_some_iff.mp hk).1
        rwa [rgD_len] at this
      rw [rgD_at hk2, Int.zero_add] at hk
      cases hk
      cases rx
      have x34 := xe.trans x4
      refine d_par P4 (ea_cons (ixN x34 hj2 rfl rfl) (ea_cons (ixN x34 hk2 rfl rfl) ea_nil)) fun xa xb G5 H5 P5 x5 y5 ra rb => ?_
      cases ra
      cases rb
      refine d_asgS P5 (d := .int (sgnI (ms.getD j 0) (ms.getD k 0))) (ed_call (ea_cons (ixR (x34.trans x5) hj2 rfl rfl) (ea_cons (ixR (x34.trans x5) hk2 rfl rfl) ea_nil)) (row_cmp (okA hj2) (okA hk2))) rfl fun H6 P6 y6 => ?_
      refine d_if1 P6 (b := false) (et_is (et_or (a := false) (b := false) (et_is (et_of' (ed_ne (ed_var rfl (.int _)) (ed_0I (ed_intB (ed_0B (ed_var rfl (.int (ms.getD j 0))) (ed_var rfl (.int (ms.getD k 0))))) (ed_intB (ed_0B (ed_var rfl (.int (ms.getD j 0))) (ed_var rfl (.int (ms.getD k 0)))))) (shaped_int _) (shaped_int _))) ?_) fun _ => et_of (ed_isInst (T := "int") (S := "bool") (b := false) (ed_var rfl (.int _)) ev_c rfl kit_ib)) rfl) (fun hb => by cases hb) fun _ H7 P7 y7 => ?_
      · rw [eqv_intI, Bool.not_eq_false', decide_eq_true_eq]
        unfold sgnI
        by_cases z1 : ms.getD j 0 = ms.getD k 0
        · rw [z1, if_pos rfl, Int.sub_self]
        · by_cases z2 : ms.getD k 0 < ms.getD j 0
          · rw [if_neg z1, if_pos z2, decide_eq_true z2, decide_eq_false (by omega)]
            rfl
          · rw [if_neg z1, if_neg z2, decide_eq_false z2, decide_eq_true (by omega)]
            rfl
      · exact hN2 _ _ ⟨_, _, _, _, _, rfl⟩ (y5.trans (y6.trans y7))
    · obtain ⟨t5, t6, t7, t8, t9, rfl⟩ := hC
      refine d_asg1 P4 (ed_call (ea_cons (ed_var rfl (rv.up x4)) (ea_cons (ixR (xe.trans x4) hj2 rfl rfl) ea_nil)) ⟨putF ms j, ms.getD j 0, rfl, by rw [putF_len]; omega, okA hj2, putF_ok ok j (by omega), rfl⟩) fun v4 G5 H5 P5 x5 y5 r4 => ?_
      exact hN _ G5 H5 ⟨v4, _, _, _, _, _, _, rfl, r4⟩ (x4.trans x5) P5
  · obtain ⟨v, s4, s5, s6, s7, s8, s9, rfl, rv⟩ := hC
    have pu := putF_srt ms ms.length (Nat.le_refl _)
    rw [List.take_length] at pu
    rw [rgD_len, pu] at rv
    refine d_when P' (b := false) (et_is (et_of' (ed_ne (ed_var rfl rv) ((ed_lc (fun _ => true) (fun d => rowD (toI d)) (ei_list (ed_sorted (ns := ms) (ms := srt ms) (ed_var rfl (r1'.up xe)) fun ks k1 k2 => srt_one k1 k2)) (by rw [List.length_map, srt_len]; omega) (turn_name (fun _ => rfl) (fun _ _ _ _ _ _ _ => et_yes) fun i d x G' e' hi r _ => ?_)).is (by rw [lcD_all, List.map_map]; rfl)) (shaped_rows (srt ms)) (shaped_rows (srt ms)))) (by rw [eqv_rows]; rfl)) (fun hb => by cases hb) fun _ H4 P4 y4 => ?_
    · obtain ⟨m, rfl⟩ := at_ hi
      exact ed_call (ea_cons (ed_var rfl r) ea_nil) ⟨m, rfl, rfl⟩
    · have cm := (has_compare (P := P) (w := w) (base := base) T).fnr (j := 5) T.a_compare.g (by decide)
      have t0 : ∀ {σ : L2.St} {G' : Hp}, EvD (tTup tNil) σ G' (.tuple []) := ed_tup ea_nil (by decide)
      have t1 : ∀ {σ : L2.St} {G' : Hp} {ta : TE} {d : PyData}, EvD ta σ G' d → EvD (tTup (tCons ta tNil)) σ G' (.tuple [d]) := fun h => ed_tup (ea_cons h ea_nil) (by show 1 ≤ 100000; decide)
      have t2 : ∀ {σ : L2.St} {G' : Hp} {ta tb : TE} {d f : PyData}, EvD ta σ G' d → EvD tb σ G' f → EvD (tTup (tCons ta (tCons tb tNil))) σ G' (.tuple [d, f]) := fun h1 h2 => ed_tup (ea_cons h1 (ea_cons h2 ea_nil)) (by show 2 ≤ 100000; decide)
      have l1 : ∀ {σ : L2.St} {G' : Hp} {ta : TE} {d : PyData}, EvD ta σ G' d → EvD (tLst (tCons ta tNil)) σ G' (.list [d]) := fun h => ed_lst (ea_cons h ea_nil) (by show 1 ≤ 100000; decide)
      have l2 : ∀ {σ : L2.St} {G' : Hp} {ta tb : TE} {d f : PyData}, EvD ta σ G' d → EvD tb σ G' f → EvD (tLst (tCons ta (tCons tb tNil))) σ G' (.list [d, f]) := fun h1 h2 => ed_lst (ea_cons h1 (ea_cons h2 ea_nil)) (by show 2 ≤ 100000; decide)
      have tn : ∀ {σ : L2.St} {G' : Hp} {te : TE}, EvD te σ G' (.str (errName 1)) → EvT (tTest (tOp (rNeD K) te (tC (.str "NoRow")))) σ G' false := fun h => by
        refine et_is (et_of' (ed_ne h ed_str (shaped_err (k := 1) (by decide)) (shaped_err (k := 1) (by decide)))) ?_
        rw [show PyData.eqv (.str (errName 1)) (.str "NoRow") = true from eqv_err (k := 1) (by decide)]
        rfl
      have hf : ∀ (f : Addr) {σ : L2.St} {G' : Hp}, EvD (tC (.ref f)) σ G' (opq f) := fun f {σ G'} H x Q q => q _ _ H (Part.refl x) (.obj _)
      have bad : ∀ {σ : L2.St} {G' : Hp} {ta tb : TE} {d f : PyData}, EvD ta σ G' d → EvD tb σ G' f → plainD d = true → plainD f = true → (isRowD d && isRowD f) = false → EvD (tCall (spT P w base T.er 5) [] E0 (tCons (tC (.ref T.f_compare)) (tCons (tLst (tCons ta (tCons tb tNil))) tNil))) σ G' (.str (errName 1)) := fun {σ G' ta tb d f} h1 h2 p1 p2 hb => by
        refine ed_tried (o := .err (T.er.c 1)) (hf _) (l2 h1 h2) (.inr rfl) cm T.a_compare.kp ⟨d, f, rfl, p1, p2, ?_⟩ ⟨1, by decide, rfl, rfl⟩
        unfold cmpO
        cases z : isRowD d with
        | false => rfl
        | true =>
          rw [z, Bool.true_and] at hb
          rw [hb]
          rfl
      have cq : ∀ {d f : PyData} {k : Int} {σ : L2.St} {G' : Hp} {ta tb tc : TE}, isRowD d = true → isRowD f = true → plainD d = true → plainD f = true → cmpD d f = k → EvD ta σ G' d → EvD tb σ G' f → EvD tc σ G' (.int k) → EvD (tOp (rEqD K) (tCall (spO (rCompare (T.er.c 1))) [] E0 (tCons ta (tCons tb tNil))) tc) σ G' (.bool true) := fun {d f k σ G' ta tb tc} i1 i2 p1 p2 ck h1 h2 h3 => by
        refine (ed_eq (d := .int k) (ed_call (ea_cons h1 (ea_cons h2 ea_nil)) ⟨d, f, rfl, p1, p2, ?_⟩) h3 (shaped_int _) (shaped_int _)).is (by rw [eqv_int])
        unfold cmpO
        rw [i1, i2, ck]
        rfl
      refine d_when P4 (b := false) (et_is (et_or (a := false) (b := false) (tn (bad (t2 ed_int ed_int) t0 (by decide) (by decide) (by decide +kernel))) fun _ => tn (bad t0 (l1 ed_int) (by decide) (by decide) (by decide +kernel))) rfl) (fun hb => by cases hb) fun _ H5 P5 y5 => ?_
      exact d_retD (E := E) (d := .bool true) P5 ((ed_andV (a := true) (b := true) (cq (by decide +kernel) (by decide +kernel) (by decide) (by decide) (by decide +kernel) t0 t0 ed_int) fun _ =>
        (ed_andV (a := true) (b := true) (cq (by decide +kernel) (by decide +kernel) (by decide) (by decide) (by decide +kernel) t0 (t1 ed_int) (ed_neg ed_int)) fun _ => cq (by decide +kernel) (by decide +kernel) (by decide) (by decide) (by decide +kernel) (t1 ed_int) (t2 ed_int ed_int) ed_int).is rfl).is rfl) q
end
end K04

set_option maxHeartbeats 4000000
namespace K04
open PySem PySem.Spec PyProof.Rows L2 Evl Lm
theorem err_one {K : PySem.W.Frag} {M : Addr} {e0 e1 e2 e3 e4 e5 : Addr} (o0 : ErrOne K e0 M) (o1 : ErrOne K e1 M) (o2 : ErrOne K e2 M) (o3 : ErrOne K e3 M) (o4 : ErrOne K e4 M) (o5 : ErrOne K e5 M) : ∀ i, i < 6 → ErrOne K (errAt e0 e1 e2 e3 e4 e5 i) M
  | 0, _ => o0
  | 1, _ => o1
  | 2, _ => o2
  | 3, _ => o3
  | 4, _ => o4
  | 5, _ => o5
  | n + 6, h => by omega
theorem pair_all {K : PySem.W.Frag} {e0 e1 e2 e3 e4 e5 : Addr} (s01 : PySem.W.subIn K (.ref e0) (.ref e1) = some false) (s02 : PySem.W.subIn K (.ref e0) (.ref e2) = some false) (s03 : PySem.W.subIn K (.ref e0) (.ref e3) = some false) (s04 : PySem.W.subIn K (.ref e0) (.ref e4) = some false) (s05 : PySem.W.subIn K (.ref e0) (.ref e5) = some false) (s10 : PySem.W.subIn K (.ref e1) (.ref e0) = some false) (s12 : PySem.W.subIn K (.ref e1) (.ref e2) = some false) (s13 : PySem.W.subIn K (.ref e1) (.ref e3) = some false) (s14 : PySem.W.subIn K (.ref e1) (.ref e4) = some false) (s15 : PySem.W.subIn K (.ref e1) (.ref e5) = some false) (s20 : PySem.W.subIn K (.ref e2) (.ref e0) = some false) (s21 : PySem.W.subIn K (.ref e2) (.ref e1) = some false) (s23 : PySem.W.subIn K (.ref e2) (.ref e3) = some false) (s24 : PySem.W.subIn K (.ref e2) (.ref e4) = some false) (s25 : PySem.W.subIn K (.ref e2) (.ref e5) = some false) (s30 : PySem.W.subIn K (.ref e3) (.ref e0) = some false) (s31 : PySem.W.subIn K (.ref e3) (.ref e1) = some false) (s32 : PySem.W.subIn K (.ref e3) (.ref e2) = some false) (s34 : PySem.W.subIn K (.ref e3) (.ref e4) = some false) (s35 : PySem.W.subIn K (.ref e3) (.ref e5) = some false) (s40 : PySem.W.subIn K (.ref e4) (.ref e0) = some false) (s41 : PySem.W.subIn K (.ref e4) (.ref e1) = some false) (s42 : PySem.W.subIn K (.ref e4) (.ref e2) = some false) (s43 : PySem.W.subIn K (.ref e4) (.ref e3) = some false) (s45 : PySem.W.subIn K (.ref e4) (.ref e5) = some false) (s50 : PySem.W.subIn K (.ref e5) (.ref e0) = some false) (s51 : PySem.W.subIn K (.ref e5) (.ref e1) = some false) (s52 : PySem.W.subIn K (.ref e5) (.ref e2) = some false) (s53 : PySem.W.subIn K (.ref e5) (.ref e3) = some false) (s54 : PySem.W.subIn K (.ref e5) (.ref e4) = some false) : ∀ i j, i < 6 → j < 6 → i ≠ j → PySem.W.subIn K (.ref (errAt e0 e1 e2 e3 e4 e5 i)) (.ref (errAt e0 e1 e2 e3 e4 e5 j)) = some false
  | 0, 0, _, _, h => absurd rfl h
  | 0, 1, _, _, h => s01
  | 0, 2, _, _, h => s02
  | 0, 3, _, _, h => s03
  | 0, 4, _, _, h => s04
  | 0, 5, _, _, h => s05
  | 1, 0, _, _, h => s10
  | 1, 1, _, _, h => absurd rfl h
  | 1, 2, _, _, h => s12
  | 1, 3, _, _, h => s13
  | 1, 4, _, _, h => s14
  | 1, 5, _, _, h => s15
  | 2, 0, _, _, h => s20
  | 2, 1, _, _, h => s21
  | 2, 2, _, _, h => absurd rfl h
  | 2, 3, _, _, h => s23
  | 2, 4, _, _, h => s24
  | 2, 5, _, _, h => s25
  | 3, 0, _, _, h => s30
  | 3, 1, _, _, h => s31
  | 3, 2, _, _, h => s32
  | 3, 3, _, _, h => absurd rfl h
  | 3, 4, _, _, h => s34
  | 3, 5, _, _, h => s35
  | 4, 0, _, _, h => s40
  | 4, 1, _, _, h => s41
  | 4, 2, _, _, h => s42
  | 4, 3, _, _, h => s43
  | 4, 4, _, _, h => absurd rfl h
  | 4, 5, _, _, h => s45
  | 5, 0, _, _, h => s50
  | 5, 1, _, _, h => s51
  | 5, 2, _, _, h => s52
  | 5, 3, _, _, h => s53
  | 5, 4, _, _, h => s54
  | 5, 5, _, _, h => absurd rfl h
  | n + 6, _, h, _, _ => by omega
  | _, n + 6, _, h, _ => by omega
theorem all_mk {l : PySem.W.OpenLaw} {w : World} {K : PySem.W.Frag} {h : Heap} {mg : Str → Option Value} {fa : Addr} (X : K.In h) (G : h.Ns mainGlobals mg) (hfa : mg "law" = some (.ref fa))
    {f0 : Addr} {od0 an0 : Option Addr} {sl0 : Array (Option Value)} {oc0 kV0 dc0 pm0 cd0 ct0 : Value}
    {f1 : Addr} {od1 an1 : Option Addr} {sl1 : Array (Option Value)} {oc1 kV1 dc1 pm1 cd1 ct1 : Value}
    {f2 : Addr} {od2 an2 : Option Addr} {sl2 : Array (Option Value)} {oc2 kV2 dc2 pm2 cd2 ct2 : Value}
    {f3 : Addr} {od3 an3 : Option Addr} {sl3 : Array (Option Value)} {oc3 kV3 dc3 pm3 cd3 ct3 : Value}
    {f4 : Addr} {od4 an4 : Option Addr} {sl4 : Array (Option Value)} {oc4 kV4 dc4 pm4 cd4 ct4 : Value}
    {f5 : Addr} {od5 an5 : Option Addr} {sl5 : Array (Option Value)} {oc5 kV5 dc5 pm5 cd5 ct5 : Value}
    {f6 : Addr} {od6 an6 : Option Addr} {sl6 : Array (Option Value)} {oc6 kV6 dc6 pm6 cd6 ct6 : Value}
    {f7 : Addr} {od7 an7 : Option Addr} {sl7 : Array (Option Value)} {oc7 kV7 dc7 pm7 cd7 ct7 : Value}
    {f8 : Addr} {od8 an8 : Option Addr} {sl8 : Array (Option Value)} {oc8 kV8 dc8 pm8 cd8 ct8 : Value}
    {f9 : Addr} {od9 an9 : Option Addr} {sl9 : Array (Option Value)} {oc9 kV9 dc9 pm9 cd9 ct9 : Value}
    {f10 : Addr} {od10 an10 : Option Addr} {sl10 : Array (Option Value)} {oc10 kV10 dc10 pm10 cd10 ct10 : Value}
    {f11 : Addr} {od11 an11 : Option Addr} {sl11 : Array (Option Value)} {oc11 kV11 dc11 pm11 cd11 ct11 : Value}
    {f12 : Addr} {od12 an12 : Option Addr} {sl12 : Array (Option Value)} {oc12 kV12 dc12 pm12 cd12 ct12 : Value}
    {f13 : Addr} {od13 an13 : Option Addr} {sl13 : Array (Option Value)} {oc13 kV13 dc13 pm13 cd13 ct13 : Value}
    {f14 : Addr} {od14 an14 : Option Addr} {sl14 : Array (Option Value)} {oc14 kV14 dc14 pm14 cd14 ct14 : Value}
    {t_LAST_PLACE : _}
    {t_MOST_MARKS : _}
    {eM e0 e1 e2 e3 e4 e5 : Addr}
    (a0 : PySem.W.nsIn K mainGlobals "is_place" = some (some (.ref f0)))
    (l0 : K.lookup f0 = some ⟨oc0, od0, .func (PySem.W.fnOf "is_place" "is_place" (defArgs (topS 11)) (defBody (topS 11)) (defScope (topS 11)) .none kV0 dc0 pm0 an0 cd0 ct0), sl0⟩)
    (c0 : PySem.W.codeIn K cd0 "is_place" = true)
    (k0 : PySem.W.keepIn K (.ref f0) = true)
    (a1 : PySem.W.nsIn K mainGlobals "next_pairs" = some (some (.ref f1)))
    (l1 : K.lookup f1 = some ⟨oc1, od1, .func (PySem.W.fnOf "next_pairs" "next_pairs" (defArgs (topS 12)) (defBody (topS 12)) (defScope (topS 12)) .none kV1 dc1 pm1 an1 cd1 ct1), sl1⟩)
    (c1 : PySem.W.codeIn K cd1 "next_pairs" = true)
    (k1 : PySem.W.keepIn K (.ref f1) = true)
    (a2 : PySem.W.nsIn K mainGlobals "is_pile" = some (some (.ref f2)))
    (l2 : K.lookup f2 = some ⟨oc2, od2, .func (PySem.W.fnOf "is_pile" "is_pile" (defArgs (topS 13)) (defBody (topS 13)) (defScope (topS 13)) .none kV2 dc2 pm2 an2 cd2 ct2), sl2⟩)
    (c2 : PySem.W.codeIn K cd2 "is_pile" = true)
    (k2 : PySem.W.keepIn K (.ref f2) = true)
    (a3 : PySem.W.nsIn K mainGlobals "is_row" = some (some (.ref f3)))
    (l3 : K.lookup f3 = some ⟨oc3, od3, .func (PySem.W.fnOf "is_row" "is_row" (defArgs (topS 14)) (defBody (topS 14)) (defScope (topS 14)) .none kV3 dc3 pm3 an3 cd3 ct3), sl3⟩)
    (c3 : PySem.W.codeIn K cd3 "is_row" = true)
    (k3 : PySem.W.keepIn K (.ref f3) = true)
    (a4 : PySem.W.nsIn K mainGlobals "need_row" = some (some (.ref f4)))
    (l4 : K.lookup f4 = some ⟨oc4, od4, .func (PySem.W.fnOf "need_row" "need_row" (defArgs (topS 15)) (defBody (topS 15)) (defScope (topS 15)) .none kV4 dc4 pm4 an4 cd4 ct4), sl4⟩)
    (c4 : PySem.W.codeIn K cd4 "need_row" = true)
    (k4 : PySem.W.keepIn K (.ref f4) = true)
    (a5 : PySem.W.nsIn K mainGlobals "greatest_lone" = some (some (.ref f5)))
    (l5 : K.lookup f5 = some ⟨oc5, od5, .func (PySem.W.fnOf "greatest_lone" "greatest_lone" (defArgs (topS 17)) (defBody (topS 17)) (defScope (topS 17)) .none kV5 dc5 pm5 an5 cd5 ct5), sl5⟩)
    (c5 : PySem.W.codeIn K cd5 "greatest_lone" = true)
    (k5 : PySem.W.keepIn K (.ref f5) = true)
    (a6 : PySem.W.nsIn K mainGlobals "compare" = some (some (.ref f6)))
    (l6 : K.lookup f6 = some ⟨oc6, od6, .func (PySem.W.fnOf "compare" "compare" (defArgs (topS 18)) (defBody (topS 18)) (defScope (topS 18)) .none kV6 dc6 pm6 an6 cd6 ct6), sl6⟩)
    (c6 : PySem.W.codeIn K cd6 "compare" = true)
    (k6 : PySem.W.keepIn K (.ref f6) = true)
    (a7 : PySem.W.nsIn K mainGlobals "_law_mix" = some (some (.ref f7)))
    (l7 : K.lookup f7 = some ⟨oc7, od7, .func (PySem.W.fnOf "_law_mix" "_law_mix" (defArgs (topS 20)) (defBody (topS 20)) (defScope (topS 20)) .none kV7 dc7 pm7 an7 cd7 ct7), sl7⟩)
    (c7 : PySem.W.codeIn K cd7 "_law_mix" = true)
    (k7 : PySem.W.keepIn K (.ref f7) = true)
    (a8 : PySem.W.nsIn K mainGlobals "_law_worths" = some (some (.ref f8)))
    (l8 : K.lookup f8 = some ⟨oc8, od8, .func (PySem.W.fnOf "_law_worths" "_law_worths" (defArgs (topS 21)) (defBody (topS 21)) (defScope (topS 21)) .none kV8 dc8 pm8 an8 cd8 ct8), sl8⟩)
    (c8 : PySem.W.codeIn K cd8 "_law_worths" = true)
    (k8 : PySem.W.keepIn K (.ref f8) = true)
    (a9 : PySem.W.nsIn K mainGlobals "_law_row" = some (some (.ref f9)))
    (l9 : K.lookup f9 = some ⟨oc9, od9, .func (PySem.W.fnOf "_law_row" "_law_row" (defArgs (topS 22)) (defBody (topS 22)) (defScope (topS 22)) .none kV9 dc9 pm9 an9 cd9 ct9), sl9⟩)
    (c9 : PySem.W.codeIn K cd9 "_law_row" = true)
    (k9 : PySem.W.keepIn K (.ref f9) = true)
    (a10 : PySem.W.nsIn K mainGlobals "_law_word" = some (some (.ref f10)))
    (l10 : K.lookup f10 = some ⟨oc10, od10, .func (PySem.W.fnOf "_law_word" "_law_word" (defArgs (topS 23)) (defBody (topS 23)) (defScope (topS 23)) .none kV10 dc10 pm10 an10 cd10 ct10), sl10⟩)
    (c10 : PySem.W.codeIn K cd10 "_law_word" = true)
    (k10 : PySem.W.keepIn K (.ref f10) = true)
    (a11 : PySem.W.nsIn K mainGlobals "_law_tried" = some (some (.ref f11)))
    (l11 : K.lookup f11 = some ⟨oc11, od11, .func (PySem.W.fnOf "_law_tried" "_law_tried" (defArgs (topS 24)) (defBody (topS 24)) (defScope (topS 24)) .none kV11 dc11 pm11 an11 cd11 ct11), sl11⟩)
    (c11 : PySem.W.codeIn K cd11 "_law_tried" = true)
    (k11 : PySem.W.keepIn K (.ref f11) = true)
    (a12 : PySem.W.nsIn K mainGlobals "_law_numbers" = some (some (.ref f12)))
    (l12 : K.lookup f12 = some ⟨oc12, od12, .func (PySem.W.fnOf "_law_numbers" "_law_numbers" (defArgs (topS 25)) (defBody (topS 25)) (defScope (topS 25)) .none kV12 dc12 pm12 an12 cd12 ct12), sl12⟩)
    (c12 : PySem.W.codeIn K cd12 "_law_numbers" = true)
    (k12 : PySem.W.keepIn K (.ref f12) = true)
    (a13 : PySem.W.nsIn K mainGlobals "_law_put_in" = some (some (.ref f13)))
    (l13 : K.lookup f13 = some ⟨oc13, od13, .func (PySem.W.fnOf "_law_put_in" "_law_put_in" (defArgs (topS 26)) (defBody (topS 26)) (defScope (topS 26)) .none kV13 dc13 pm13 an13 cd13 ct13), sl13⟩)
    (c13 : PySem.W.codeIn K cd13 "_law_put_in" = true)
    (k13 : PySem.W.keepIn K (.ref f13) = true)
    (a14 : PySem.W.nsIn K mainGlobals "law" = some (some (.ref f14)))
    (l14 : K.lookup f14 = some ⟨oc14, od14, .func (PySem.W.fnOf "law" "law" (defArgs (topS 27)) (defBody (topS 27)) (defScope (topS 27)) .none kV14 dc14 pm14 an14 cd14 ct14), sl14⟩)
    (c14 : PySem.W.codeIn K cd14 "law" = true)
    (k14 : PySem.W.keepIn K (.ref f14) = true)
    (z_ValueError : PySem.W.nsIn K mainGlobals "ValueError" = some none)
    (z_all : PySem.W.nsIn K mainGlobals "all" = some none)
    (z_bool : PySem.W.nsIn K mainGlobals "bool" = some none)
    (z_enumerate : PySem.W.nsIn K mainGlobals "enumerate" = some none)
    (z_int : PySem.W.nsIn K mainGlobals "int" = some none)
    (z_isinstance : PySem.W.nsIn K mainGlobals "isinstance" = some none)
    (z_len : PySem.W.nsIn K mainGlobals "len" = some none)
    (z_list : PySem.W.nsIn K mainGlobals "list" = some none)
    (z_max : PySem.W.nsIn K mainGlobals "max" = some none)
    (z_range : PySem.W.nsIn K mainGlobals "range" = some none)
    (z_reversed : PySem.W.nsIn K mainGlobals "reversed" = some none)
    (z_sorted : PySem.W.nsIn K mainGlobals "sorted" = some none)
    (z_tuple : PySem.W.nsIn K mainGlobals "tuple" = some none)
    (z_type : PySem.W.nsIn K mainGlobals "type" = some none)
    (z_zip : PySem.W.nsIn K mainGlobals "zip" = some none)
    (q_LAST_PLACE : PySem.W.nsIn K mainGlobals "LAST_PLACE" = some (some (.int 99 t_LAST_PLACE)))
    (q_MOST_MARKS : PySem.W.nsIn K mainGlobals "MOST_MARKS" = some (some (.int 240 t_MOST_MARKS)))
    (gEM : PySem.W.nsIn K mainGlobals "MarkError" = some (some (.ref eM)))
    (gE0 : PySem.W.nsIn K mainGlobals "NoPile" = some (some (.ref e0)))
    (gE1 : PySem.W.nsIn K mainGlobals "NoRow" = some (some (.ref e1)))
    (gE2 : PySem.W.nsIn K mainGlobals "NoMove" = some (some (.ref e2)))
    (gE3 : PySem.W.nsIn K mainGlobals "TooGreat" = some (some (.ref e3)))
    (gE4 : PySem.W.nsIn K mainGlobals "Below" = some (some (.ref e4)))
    (gE5 : PySem.W.nsIn K mainGlobals "NoText" = some (some (.ref e5)))
    (iM : PySem.W.isClsIn K eM = true)
    (tM : PySem.W.typeIn K (.ref eM) = some (.type "type"))
    (bM : PySem.W.subIn K (.ref eM) (.type "BaseException") = some true)
    (cn : PySem.W.specialIn K (.builtin "object.__class__") "__get__" = some (some (.builtin "getset_descriptor.__get__")))
    (ct_ : PySem.W.takesIn K (.builtin "object.__class__") = some true)
    (ek0 : PySem.W.keepIn K (.ref e0) = true)
    (ex0 : PySem.W.excIn K e0 [.type "ValueError", .type "Exception", .type "BaseException", .type "object"] "ValueError.__new__" = true)
    (eb0 : PySem.W.subIn K (.ref e0) (.type "BaseException") = some true)
    (et0 : PySem.W.typeIn K (.ref e0) = some (.type "type"))
    (ei0 : PySem.W.isClsIn K e0 = true)
    (em0 : PySem.W.subIn K (.ref e0) (.ref eM) = some true)
    (ev0 : PySem.W.subIn K (.ref e0) (.type "ValueError") = some true)
    (eg0 : PySem.W.findIn K (.ref e0) "__getattribute__" = some (some (.builtin "BaseException.__getattribute__")))
    (ea0 : PySem.W.findIn K (.ref e0) "__getattr__" = some none)
    (ed0 : PySem.W.hasDictIn K e0 = true)
    (ec0 : PySem.W.findIn K (.ref e0) "__class__" = some (some (.builtin "object.__class__")))
    (eo0 : PySem.W.mroIn K e0 (.type "object") = some true)
    (ek1 : PySem.W.keepIn K (.ref e1) = true)
    (ex1 : PySem.W.excIn K e1 [.type "ValueError", .type "Exception", .type "BaseException", .type "object"] "ValueError.__new__" = true)
    (eb1 : PySem.W.subIn K (.ref e1) (.type "BaseException") = some true)
    (et1 : PySem.W.typeIn K (.ref e1) = some (.type "type"))
    (ei1 : PySem.W.isClsIn K e1 = true)
    (em1 : PySem.W.subIn K (.ref e1) (.ref eM) = some true)
    (ev1 : PySem.W.subIn K (.ref e1) (.type "ValueError") = some true)
    (eg1 : PySem.W.findIn K (.ref e1) "__getattribute__" = some (some (.builtin "BaseException.__getattribute__")))
    (ea1 : PySem.W.findIn K (.ref e1) "__getattr__" = some none)
    (ed1 : PySem.W.hasDictIn K e1 = true)
    (ec1 : PySem.W.findIn K (.ref e1) "__class__" = some (some (.builtin "object.__class__")))
    (eo1 : PySem.W.mroIn K e1 (.type "object") = some true)
    (ek2 : PySem.W.keepIn K (.ref e2) = true)
    (ex2 : PySem.W.excIn K e2 [.type "ValueError", .type "Exception", .type "BaseException", .type "object"] "ValueError.__new__" = true)
    (eb2 : PySem.W.subIn K (.ref e2) (.type "BaseException") = some true)
    (et2 : PySem.W.typeIn K (.ref e2) = some (.type "type"))
    (ei2 : PySem.W.isClsIn K e2 = true)
    (em2 : PySem.W.subIn K (.ref e2) (.ref eM) = some true)
    (ev2 : PySem.W.subIn K (.ref e2) (.type "ValueError") = some true)
    (eg2 : PySem.W.findIn K (.ref e2) "__getattribute__" = some (some (.builtin "BaseException.__getattribute__")))
    (ea2 : PySem.W.findIn K (.ref e2) "__getattr__" = some none)
    (ed2 : PySem.W.hasDictIn K e2 = true)
    (ec2 : PySem.W.findIn K (.ref e2) "__class__" = some (some (.builtin "object.__class__")))
    (eo2 : PySem.W.mroIn K e2 (.type "object") = some true)
    (ek3 : PySem.W.keepIn K (.ref e3) = true)
    (ex3 : PySem.W.excIn K e3 [.type "ValueError", .type "Exception", .type "BaseException", .type "object"] "ValueError.__new__" = true)
    (eb3 : PySem.W.subIn K (.ref e3) (.type "BaseException") = some true)
    (et3 : PySem.W.typeIn K (.ref e3) = some (.type "type"))
    (ei3 : PySem.W.isClsIn K e3 = true)
    (em3 : PySem.W.subIn K (.ref e3) (.ref eM) = some true)
    (ev3 : PySem.W.subIn K (.ref e3) (.type "ValueError") = some true)
    (eg3 : PySem.W.findIn K (.ref e3) "__getattribute__" = some (some (.builtin "BaseException.__getattribute__")))
    (ea3 : PySem.W.findIn K (.ref e3) "__getattr__" = some none)
    (ed3 : PySem.W.hasDictIn K e3 = true)
    (ec3 : PySem.W.findIn K (.ref e3) "__class__" = some (some (.builtin "object.__class__")))
    (eo3 : PySem.W.mroIn K e3 (.type "object") = some true)
    (ek4 : PySem.W.keepIn K (.ref e4) = true)
    (ex4 : PySem.W.excIn K e4 [.type "ValueError", .type "Exception", .type "BaseException", .type "object"] "ValueError.__new__" = true)
    (eb4 : PySem.W.subIn K (.ref e4) (.type "BaseException") = some true)
    (et4 : PySem.W.typeIn K (.ref e4) = some (.type "type"))
    (ei4 : PySem.W.isClsIn K e4 = true)
    (em4 : PySem.W.subIn K (.ref e4) (.ref eM) = some true)
    (ev4 : PySem.W.subIn K (.ref e4) (.type "ValueError") = some true)
    (eg4 : PySem.W.findIn K (.ref e4) "__getattribute__" = some (some (.builtin "BaseException.__getattribute__")))
    (ea4 : PySem.W.findIn K (.ref e4) "__getattr__" = some none)
    (ed4 : PySem.W.hasDictIn K e4 = true)
    (ec4 : PySem.W.findIn K (.ref e4) "__class__" = some (some (.builtin "object.__class__")))
    (eo4 : PySem.W.mroIn K e4 (.type "object") = some true)
    (ek5 : PySem.W.keepIn K (.ref e5) = true)
    (ex5 : PySem.W.excIn K e5 [.type "ValueError", .type "Exception", .type "BaseException", .type "object"] "ValueError.__new__" = true)
    (eb5 : PySem.W.subIn K (.ref e5) (.type "BaseException") = some true)
    (et5 : PySem.W.typeIn K (.ref e5) = some (.type "type"))
    (ei5 : PySem.W.isClsIn K e5 = true)
    (em5 : PySem.W.subIn K (.ref e5) (.ref eM) = some true)
    (ev5 : PySem.W.subIn K (.ref e5) (.type "ValueError") = some true)
    (eg5 : PySem.W.findIn K (.ref e5) "__getattribute__" = some (some (.builtin "BaseException.__getattribute__")))
    (ea5 : PySem.W.findIn K (.ref e5) "__getattr__" = some none)
    (ed5 : PySem.W.hasDictIn K e5 = true)
    (ec5 : PySem.W.findIn K (.ref e5) "__class__" = some (some (.builtin "object.__class__")))
    (eo5 : PySem.W.mroIn K e5 (.type "object") = some true)
    (s01 : PySem.W.subIn K (.ref e0) (.ref e1) = some false)
    (s02 : PySem.W.subIn K (.ref e0) (.ref e2) = some false)
    (s03 : PySem.W.subIn K (.ref e0) (.ref e3) = some false)
    (s04 : PySem.W.subIn K (.ref e0) (.ref e4) = some false)
    (s05 : PySem.W.subIn K (.ref e0) (.ref e5) = some false)
    (s10 : PySem.W.subIn K (.ref e1) (.ref e0) = some false)
    (s12 : PySem.W.subIn K (.ref e1) (.ref e2) = some false)
    (s13 : PySem.W.subIn K (.ref e1) (.ref e3) = some false)
    (s14 : PySem.W.subIn K (.ref e1) (.ref e4) = some false)
    (s15 : PySem.W.subIn K (.ref e1) (.ref e5) = some false)
    (s20 : PySem.W.subIn K (.ref e2) (.ref e0) = some false)
    (s21 : PySem.W.subIn K (.ref e2) (.ref e1) = some false)
    (s23 : PySem.W.subIn K (.ref e2) (.ref e3) = some false)
    (s24 : PySem.W.subIn K (.ref e2) (.ref e4) = some false)
    (s25 : PySem.W.subIn K (.ref e2) (.ref e5) = some false)
    (s30 : PySem.W.subIn K (.ref e3) (.ref e0) = some false)
    (s31 : PySem.W.subIn K (.ref e3) (.ref e1) = some false)
    (s32 : PySem.W.subIn K (.ref e3) (.ref e2) = some false)
    (s34 : PySem.W.subIn K (.ref e3) (.ref e4) = some false)
    (s35 : PySem.W.subIn K (.ref e3) (.ref e5) = some false)
    (s40 : PySem.W.subIn K (.ref e4) (.ref e0) = some false)
    (s41 : PySem.W.subIn K (.ref e4) (.ref e1) = some false)
    (s42 : PySem.W.subIn K (.ref e4) (.ref e2) = some false)
    (s43 : PySem.W.subIn K (.ref e4) (.ref e3) = some false)
    (s45 : PySem.W.subIn K (.ref e4) (.ref e5) = some false)
    (s50 : PySem.W.subIn K (.ref e5) (.ref e0) = some false)
    (s51 : PySem.W.subIn K (.ref e5) (.ref e1) = some false)
    (s52 : PySem.W.subIn K (.ref e5) (.ref e2) = some false)
    (s53 : PySem.W.subIn K (.ref e5) (.ref e3) = some false)
    (s54 : PySem.W.subIn K (.ref e5) (.ref e4) = some false)
    : ∃ fd : FuncData, (∀ (s : Shared) (v : Value), BindsTo s fd ⟨[v], []⟩ [("_law_script", v)]) ∧ ∀ base : Heap, K.In base → base.Ns mainGlobals mg → FnOk l.prog w K mg base (L2.CX l.prog w) 9 fa fd ["_law_script"] (spLaw K) := by
  have e := hfa.symm.trans (PySem.W.mg_of X G a14)
  obtain rfl : f14 = fa := by cases e; rfl
  let T : Txt K mg := {
    er := errOf (M := eM) (c := errAt e0 e1 e2 e3 e4 e5) (PySem.W.mg_of X G gEM) (PySem.W.mg_of X G gE0) (PySem.W.mg_of X G gE1) (PySem.W.mg_of X G gE2) (PySem.W.mg_of X G gE3) (PySem.W.mg_of X G gE4) (PySem.W.mg_of X G gE5) iM tM bM (err_one ⟨ek0, ex0, eb0, et0, ei0, em0, ev0, ⟨eg0, ea0, eb0, ed0, ec0, cn, ct_, eo0⟩⟩ ⟨ek1, ex1, eb1, et1, ei1, em1, ev1, ⟨eg1, ea1, eb1, ed1, ec1, cn, ct_, eo1⟩⟩ ⟨ek2, ex2, eb2, et2, ei2, em2, ev2, ⟨eg2, ea2, eb2, ed2, ec2, cn, ct_, eo2⟩⟩ ⟨ek3, ex3, eb3, et3, ei3, em3, ev3, ⟨eg3, ea3, eb3, ed3, ec3, cn, ct_, eo3⟩⟩ ⟨ek4, ex4, eb4, et4, ei4, em4, ev4, ⟨eg4, ea4, eb4, ed4, ec4, cn, ct_, eo4⟩⟩ ⟨ek5, ex5, eb5, et5, ei5, em5, ev5, ⟨eg5, ea5, eb5, ed5, ec5, cn, ct_, eo5⟩⟩) (pair_all s01 s02 s03 s04 s05 s10 s12 s13 s14 s15 s20 s21 s23 s24 s25 s30 s31 s32 s34 s35 s40 s41 s42 s43 s45 s50 s51 s52 s53 s54),
    f_is_place := f0,
    a_is_place := ⟨PySem.W.mg_of X G a0, _, fun_mk (st := topS 11) l0 c0 k0, (fun_mk (st := topS 11) l0 c0 k0).binds (ps := ["thing"]) fun _ _ _ _ _ _ us hl => match us, hl with | [_], _ => rfl⟩,
    f_next_pairs := f1,
    a_next_pairs := ⟨PySem.W.mg_of X G a1, _, fun_mk (st := topS 12) l1 c1 k1, (fun_mk (st := topS 12) l1 c1 k1).binds (ps := ["pile"]) fun _ _ _ _ _ _ us hl => match us, hl with | [_], _ => rfl⟩,
    f_is_pile := f2,
    a_is_pile := ⟨PySem.W.mg_of X G a2, _, fun_mk (st := topS 13) l2 c2 k2, (fun_mk (st := topS 13) l2 c2 k2).binds (ps := ["thing"]) fun _ _ _ _ _ _ us hl => match us, hl with | [_], _ => rfl⟩,
    f_is_row := f3,
    a_is_row := ⟨PySem.W.mg_of X G a3, _, fun_mk (st := topS 14) l3 c3 k3, (fun_mk (st := topS 14) l3 c3 k3).binds (ps := ["thing"]) fun _ _ _ _ _ _ us hl => match us, hl with | [_], _ => rfl⟩,
    f_need_row := f4,
    a_need_row := ⟨PySem.W.mg_of X G a4, _, fun_mk (st := topS 15) l4 c4 k4, (fun_mk (st := topS 15) l4 c4 k4).binds (ps := ["thing"]) fun _ _ _ _ _ _ us hl => match us, hl with | [_], _ => rfl⟩,
    f_greatest_lone := f5,
    a_greatest_lone := ⟨PySem.W.mg_of X G a5, _, fun_mk (st := topS 17) l5 c5 k5, (fun_mk (st := topS 17) l5 c5 k5).binds (ps := ["one", "other"]) fun _ _ _ _ _ _ us hl => match us, hl with | [_, _], _ => rfl⟩,
    f_compare := f6,
    a_compare := ⟨PySem.W.mg_of X G a6, _, fun_mk (st := topS 18) l6 c6 k6, (fun_mk (st := topS 18) l6 c6 k6).binds (ps := ["one", "other"]) fun _ _ _ _ _ _ us hl => match us, hl with | [_, _], _ => rfl⟩,
    f__law_mix := f7,
    a__law_mix := ⟨PySem.W.mg_of X G a7, _, fun_mk (st := topS 20) l7 c7 k7, (fun_mk (st := topS 20) l7 c7 k7).binds (ps := ["_law_cell", "_law_k"]) fun _ _ _ _ _ _ us hl => match us, hl with | [_, _], _ => rfl⟩,
    f__law_worths := f8,
    a__law_worths := ⟨PySem.W.mg_of X G a8, _, fun_mk (st := topS 21) l8 c8 k8, (fun_mk (st := topS 21) l8 c8 k8).binds (ps := []) fun _ _ _ _ _ _ us hl => match us, hl with | [], _ => rfl⟩,
    f__law_row := f9,
    a__law_row := ⟨PySem.W.mg_of X G a9, _, fun_mk (st := topS 22) l9 c9 k9, (fun_mk (st := topS 22) l9 c9 k9).binds (ps := ["_law_number"]) fun _ _ _ _ _ _ us hl => match us, hl with | [_], _ => rfl⟩,
    f__law_word := f10,
    a__law_word := ⟨PySem.W.mg_of X G a10, _, fun_mk (st := topS 23) l10 c10 k10, (fun_mk (st := topS 23) l10 c10 k10).binds (ps := ["_law_e"]) fun _ _ _ _ _ _ us hl => match us, hl with | [_], _ => rfl⟩,
    f__law_tried := f11,
    a__law_tried := ⟨PySem.W.mg_of X G a11, _, fun_mk (st := topS 24) l11 c11 k11, (fun_mk (st := topS 24) l11 c11 k11).binds (ps := ["_law_deed", "_law_things"]) fun _ _ _ _ _ _ us hl => match us, hl with | [_, _], _ => rfl⟩,
    f__law_numbers := f12,
    a__law_numbers := ⟨PySem.W.mg_of X G a12, _, fun_mk (st := topS 25) l12 c12 k12, (fun_mk (st := topS 25) l12 c12 k12).binds (ps := ["_law_script"]) fun _ _ _ _ _ _ us hl => match us, hl with | [_], _ => rfl⟩,
    f__law_put_in := f13,
    a__law_put_in := ⟨PySem.W.mg_of X G a13, _, fun_mk (st := topS 26) l13 c13 k13, (fun_mk (st := topS 26) l13 c13 k13).binds (ps := ["_law_rows", "_law_row_here"]) fun _ _ _ _ _ _ us hl => match us, hl with | [_, _], _ => rfl⟩,
    f_law := f14,
    a_law := ⟨PySem.W.mg_of X G a14, _, fun_mk (st := topS 27) l14 c14 k14, (fun_mk (st := topS 27) l14 c14 k14).binds (ps := ["_law_script"]) fun _ _ _ _ _ _ us hl => match us, hl with | [_], _ => rfl⟩,
    b_ValueError := PySem.W.mg_none_of X G z_ValueError,
    b_all := PySem.W.mg_none_of X G z_all,
    b_bool := PySem.W.mg_none_of X G z_bool,
    b_enumerate := PySem.W.mg_none_of X G z_enumerate,
    b_int := PySem.W.mg_none_of X G z_int,
    b_isinstance := PySem.W.mg_none_of X G z_isinstance,
    b_len := PySem.W.mg_none_of X G z_len,
    b_list := PySem.W.mg_none_of X G z_list,
    b_max := PySem.W.mg_none_of X G z_max,
    b_range := PySem.W.mg_none_of X G z_range,
    b_reversed := PySem.W.mg_none_of X G z_reversed,
    b_sorted := PySem.W.mg_none_of X G z_sorted,
    b_tuple := PySem.W.mg_none_of X G z_tuple,
    b_type := PySem.W.mg_none_of X G z_type,
    b_zip := PySem.W.mg_none_of X G z_zip,
    c_LAST_PLACE := ⟨_, PySem.W.mg_of X G q_LAST_PLACE⟩,
    c_MOST_MARKS := ⟨_, PySem.W.mg_of X G q_MOST_MARKS⟩ }
  exact ⟨_, fun s v => .of_eq rfl, fun base _ _ => ok_law T (fun_mk (st := topS 27) l14 c14 k14)⟩
end K04
open PySem PySem.W PyProof.Rows
set_option maxHeartbeats 0 in
theorem PySem.Challenge.cw_loosemarks_k04_whole_order_holds : PySem.Challenge.rw_loosemarks_k04_whole_order.Holds := by
  w_on; o_law; k_head; (case hw => w_witness2)
  k_fill
  refine L2.walk_of (l := PySem.Challenge.rw_loosemarks_k04_whole_order) (n := 63) (k := 9) (x := "_law_script") (CX := fun w => L2.CX PySem.Challenge.rw_loosemarks_k04_whole_order.prog w) (sp := fun w => Lm.spLaw _) rfl (by decide) rfl ⟨rfl, by decide, by decide⟩ (fun w h Y => PySem.W.kIn_of Y) ?F (fun _ _ a ns hl _ hS => ⟨a, ns, rfl, hS, hl, fun _ => rfl⟩) ?C
  case C =>
    intro w H s e s' c
    obtain ⟨_, _, _, _, _, _, _, _, _, _, _, _, z⟩ := c
    exact z
  case F =>
    intro w mg fa h KX G hmg
    refine' K04.all_mk KX G hmg ?a0 ?l0 ?c0 ?k0 ?a1 ?l1 ?c1 ?k1 ?a2 ?l2 ?c2 ?k2 ?a3 ?l3 ?c3 ?k3 ?a4 ?l4 ?c4 ?k4 ?a5 ?l5 ?c5 ?k5 ?a6 ?l6 ?c6 ?k6 ?a7 ?l7 ?c7 ?k7 ?a8 ?l8 ?c8 ?k8 ?a9 ?l9 ?c9 ?k9 ?a10 ?l10 ?c10 ?k10 ?a11 ?l11 ?c11 ?k11 ?a12 ?l12 ?c12 ?k12 ?a13 ?l13 ?c13 ?k13 ?a14 ?l14 ?c14 ?k14 ?z_ValueError ?z_all ?z_bool ?z_enumerate ?z_int ?z_isinstance ?z_len ?z_list ?z_max ?z_range ?z_reversed ?z_sorted ?z_tuple ?z_type ?z_zip ?q_LAST_PLACE ?q_MOST_MARKS ?gEM ?gE0 ?gE1 ?gE2 ?gE3 ?gE4 ?gE5 ?iM ?tM ?bM ?cn ?ct_ ?ek0 ?ex0 ?eb0 ?et0 ?ei0 ?em0 ?ev0 ?eg0 ?ea0 ?ed0 ?ec0 ?eo0 ?ek1 ?ex1 ?eb1 ?et1 ?ei1 ?em1 ?ev1 ?eg1 ?ea1 ?ed1 ?ec1 ?eo1 ?ek2 ?ex2 ?eb2 ?et2 ?ei2 ?em2 ?ev2 ?eg2 ?ea2 ?ed2 ?ec2 ?eo2 ?ek3 ?ex3 ?eb3 ?et3 ?ei3 ?em3 ?ev3 ?eg3 ?ea3 ?ed3 ?ec3 ?eo3 ?ek4 ?ex4 ?eb4 ?et4 ?ei4 ?em4 ?ev4 ?eg4 ?ea4 ?ed4 ?ec4 ?eo4 ?ek5 ?ex5 ?eb5 ?et5 ?ei5 ?em5 ?ev5 ?eg5 ?ea5 ?ed5 ?ec5 ?eo5 ?s01 ?s02 ?s03 ?s04 ?s05 ?s10 ?s12 ?s13 ?s14 ?s15 ?s20 ?s21 ?s23 ?s24 ?s25 ?s30 ?s31 ?s32 ?s34 ?s35 ?s40 ?s41 ?s42 ?s43 ?s45 ?s50 ?s51 ?s52 ?s53 ?s54
    case a0 => k_is
    case l0 => k_is
    case c0 => k_is
    case k0 => k_is
    case a1 => k_is
    case l1 => k_is
    case c1 => k_is
    case k1 => k_is
    case a2 => k_is
    case l2 => k_is
    case c2 => k_is
    case k2 => k_is
    case a3 => k_is
    case l3 => k_is
    case c3 => k_is
    case k3 => k_is
    case a4 => k_is
    case l4 => k_is
    case c4 => k_is
    case k4 => k_is
    case a5 => k_is
    case l5 => k_is
    case c5 => k_is
    case k5 => k_is
    case a6 => k_is
    case l6 => k_is
    case c6 => k_is
    case k6 => k_is
    case a7 => k_is
    case l7 => k_is
    case c7 => k_is
    case k7 => k_is
    case a8 => k_is
    case l8 => k_is
    case c8 => k_is
    case k8 => k_is
    case a9 => k_is
    case l9 => k_is
    case c9 => k_is
    case k9 => k_is
    case a10 => k_is
    case l10 => k_is
    case c10 => k_is
    case k10 => k_is
    case a11 => k_is
    case l11 => k_is
    case c11 => k_is
    case k11 => k_is
    case a12 => k_is
    case l12 => k_is
    case c12 => k_is
    case k12 => k_is
    case a13 => k_is
    case l13 => k_is
    case c13 => k_is
    case k13 => k_is
    case a14 => k_is
    case l14 => k_is
    case c14 => k_is
    case k14 => k_is
    case z_ValueError => k_is
    case z_all => k_is
    case z_bool => k_is
    case z_enumerate => k_is
    case z_int => k_is
    case z_isinstance => k_is
    case z_len => k_is
    case z_list => k_is
    case z_max => k_is
    case z_range => k_is
    case z_reversed => k_is
    case z_sorted => k_is
    case z_tuple => k_is
    case z_type => k_is
    case z_zip => k_is
    case q_LAST_PLACE => k_is
    case q_MOST_MARKS => k_is
    case gEM => k_is
    case gE0 => k_is
    case gE1 => k_is
    case gE2 => k_is
    case gE3 => k_is
    case gE4 => k_is
    case gE5 => k_is
    case iM => k_is
    case tM => k_is
    case bM => k_is
    case cn => k_is
    case ct_ => k_is
    case ek0 => k_is
    case ex0 => k_exc
    case eb0 => k_is
    case et0 => k_is
    case ei0 => k_is
    case em0 => k_is
    case ev0 => k_is
    case eg0 => k_is
    case ea0 => k_is
    case ed0 => k_is
    case ec0 => k_is
    case eo0 => k_is
    case ek1 => k_is
    case ex1 => k_exc
    case eb1 => k_is
    case et1 => k_is
    case ei1 => k_is
    case em1 => k_is
    case ev1 => k_is
    case eg1 => k_is
    case ea1 => k_is
    case ed1 => k_is
    case ec1 => k_is
    case eo1 => k_is
    case ek2 => k_is
    case ex2 => k_exc
    case eb2 => k_is
    case et2 => k_is
    case ei2 => k_is
    case em2 => k_is
    case ev2 => k_is
    case eg2 => k_is
    case ea2 => k_is
    case ed2 => k_is
    case ec2 => k_is
    case eo2 => k_is
    case ek3 => k_is
    case ex3 => k_exc
    case eb3 => k_is
    case et3 => k_is
    case ei3 => k_is
    case em3 => k_is
    case ev3 => k_is
    case eg3 => k_is
    case ea3 => k_is
    case ed3 => k_is
    case ec3 => k_is
    case eo3 => k_is
    case ek4 => k_is
    case ex4 => k_exc
    case eb4 => k_is
    case et4 => k_is
    case ei4 => k_is
    case em4 => k_is
    case ev4 => k_is
    case eg4 => k_is
    case ea4 => k_is
    case ed4 => k_is
    case ec4 => k_is
    case eo4 => k_is
    case ek5 => k_is
    case ex5 => k_exc
    case eb5 => k_is
    case et5 => k_is
    case ei5 => k_is
    case em5 => k_is
    case ev5 => k_is
    case eg5 => k_is
    case ea5 => k_is
    case ed5 => k_is
    case ec5 => k_is
    case eo5 => k_is
    case s01 => k_is
    case s02 => k_is
    case s03 => k_is
    case s04 => k_is
    case s05 => k_is
    case s10 => k_is
    case s12 => k_is
    case s13 => k_is
    case s14 => k_is
    case s15 => k_is
    case s20 => k_is
    case s21 => k_is
    case s23 => k_is
    case s24 => k_is
    case s25 => k_is
    case s30 => k_is
    case s31 => k_is
    case s32 => k_is
    case s34 => k_is
    case s35 => k_is
    case s40 => k_is
    case s41 => k_is
    case s42 => k_is
    case s43 => k_is
    case s45 => k_is
    case s50 => k_is
    case s51 => k_is
    case s52 => k_is
    case s53 => k_is
    case s54 => k_is


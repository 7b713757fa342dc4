import PyProof.Rows.All
import Wide.All
import OpenK.AllK
import Wide.FinOn
import PyProof.EqAt
import PyProof.EqKinds
import PyProof.TupleCall
import PyProof.TupleKey
import PyProof.P3Eq
import PyProof.P3Statements
import KE.KSortTup
import PyProof.StrLoop
import PyProof.StrWalks
import PyProof.StrBlockI
import PyProof.StrCalls
import Lean
import PySem.Challenge.RW_kindturn_k16_read
set_option Elab.async false
set_option linter.all false
set_option maxRecDepth 100000
/-! keys of a dict that are tuples within tuples -/
namespace KN
open PySem
mutual
def kD : PyData → Bool
  | .int _ => true
  | .str s => PyData.strOk s
  | .tuple ds => kDs ds
  | _ => false
def kDs : List PyData → Bool
  | [] => true
  | d :: ds => kD d && kDs ds
end
mutual
def NH (h : Heap) : PyData → Value → Prop
  | .int i, v => ∃ t, v = .int i t
  | .str x, v => ∃ t, v = .str x t
  | .tuple ds, v => ∃ (a : Addr) (o : Obj) (its : Array Value) (n : Nat), v = .ref a ∧ h.get? a = some o ∧ o.cls = .type "tuple" ∧ o.data = .seq its n ∧ NHs h ds its.toList
  | _, _ => False
def NHs (h : Heap) : List PyData → List Value → Prop
  | [], vs => vs = []
  | d :: ds, vs => ∃ v r, vs = v :: r ∧ NH h d v ∧ NHs h ds r
end
mutual
def hashD (w : World) : PyData → Int
  | .int i => hashInt i
  | .str s => hashStr w s
  | .tuple ds => reduceHash (Builtin.Tuple.tupleHashOf (hashDs w ds))
  | _ => 0
def hashDs (w : World) : List PyData → List Int
  | [] => []
  | d :: ds => hashD w d :: hashDs w ds
end
mutual
def drawsD : PyData → Nat
  | .int _ => 1
  | .str _ => 1
  | .tuple ds => drawsDs ds + 1
  | _ => 0
def drawsDs : List PyData → Nat
  | [] => 0
  | d :: ds => drawsD d + drawsDs ds
end
mutual
theorem NH.inj {h : Heap} : ∀ (x y : PyData) (v : Value), NH h x v → NH h y v → x = y
  | .int i, .int j, v, ⟨t, e⟩, ⟨u, e'⟩ => by subst e; injection e' with e1 _; rw [e1]
  | .int i, .str _, v, ⟨t, e⟩, ⟨u, e'⟩ => by subst e; cases e'
  | .int i, .tuple _, v, ⟨t, e⟩, ⟨_, _, _, _, e', _⟩ => by subst e; cases e'
  | .str i, .int j, v, ⟨t, e⟩, ⟨u, e'⟩ => by subst e; cases e'
  | .str i, .str _, v, ⟨t, e⟩, ⟨u, e'⟩ => by subst e; injection e' with e1 _; rw [e1]
  | .str i, .tuple _, v, ⟨t, e⟩, ⟨_, _, _, _, e', _⟩ => by subst e; cases e'
  | .tuple _, .int j, v, ⟨_, _, _, _, e, _⟩, ⟨u, e'⟩ => by subst e; cases e'
  | .tuple _, .str _, v, ⟨_, _, _, _, e, _⟩, ⟨u, e'⟩ => by subst e; cases e'
  | .tuple xs, .tuple ys, v, ⟨a, o, its, n, e, ho, _, hd, r⟩, ⟨a', o', its', n', e', ho', _, hd', r'⟩ => by
    subst e
    injection e' with e1
    subst e1
    rw [ho] at ho'
    cases ho'
    rw [hd] at hd'
    injection hd' with e2 _
    subst e2
    rw [NHs.inj xs ys _ r r']
  | .none, _, _, h, _ => h.elim
  | .bool _, _, _, h, _ => h.elim
  | .list _, _, _, h, _ => h.elim
  | .dict _, _, _, h, _ => h.elim
  | .int _, .none, _, _, h => h.elim
  | .int _, .bool _, _, _, h => h.elim
  | .int _, .list _, _, _, h => h.elim
  | .int _, .dict _, _, _, h => h.elim
  | .str _, .none, _, _, h => h.elim
  | .str _, .bool _, _, _, h => h.elim
  | .str _, .list _, _, _, h => h.elim
  | .str _, .dict _, _, _, h => h.elim
  | .tuple _, .none, _, _, h => h.elim
  | .tuple _, .bool _, _, _, h => h.elim
  | .tuple _, .list _, _, _, h => h.elim
  | .tuple _, .dict _, _, _, h => h.elim
theorem NHs.inj {h : Heap} : ∀ (x y : List PyData) (v : List Value), NHs h x v → NHs h y v → x = y
  | [], [], _, _, _ => rfl
  | [], _ :: _, v, e, ⟨_, _, e', _⟩ => by cases (show v = [] from e); cases e'
  | _ :: _, [], v, ⟨_, _, e', _⟩, e => by cases (show v = [] from e); cases e'
  | x :: xs, y :: ys, v, ⟨u, r, e, h1, h2⟩, ⟨u', r', e', h1', h2'⟩ => by
    subst e
    injection e' with e1 e2
    subst e1 e2
    rw [NH.inj x y u h1 h1', NHs.inj xs ys r h2 h2']
end
mutual
theorem NH.keeps {h h' : Heap} (k : ∀ a o its n, h.get? a = some o → o.data = .seq its n → h'.get? a = some o) : ∀ (d : PyData) (v : Value), NH h d v → NH h' d v
  | .int _, _, x => x
  | .str _, _, x => x
  | .tuple ds, _, ⟨a, o, its, n, e, ho, hc, hd, r⟩ => ⟨a, o, its, n, e, k a o its n ho hd, hc, hd, NHs.keeps k ds _ r⟩
  | .none, _, x => x.elim
  | .bool _, _, x => x.elim
  | .list _, _, x => x.elim
  | .dict _, _, x => x.elim
theorem NHs.keeps {h h' : Heap} (k : ∀ a o its n, h.get? a = some o → o.data = .seq its n → h'.get? a = some o) : ∀ (d : List PyData) (v : List Value), NHs h d v → NHs h' d v
  | [], _, x => x
  | d :: ds, _, ⟨u, r, e, h1, h2⟩ => ⟨u, r, e, NH.keeps k d u h1, NHs.keeps k ds r h2⟩
end
mutual
theorem NH.reads {h : Heap} : ∀ (d : PyData) (v : Value), NH h d v → ∃ as, Reads h v d as
  | .int i, _, ⟨t, e⟩ => by subst e; exact ⟨_, .int i t⟩
  | .str i, _, ⟨t, e⟩ => by subst e; exact ⟨_, .str i t⟩
  | .tuple ds, _, ⟨a, o, its, n, e, ho, hc, hd, r⟩ => by
    subst e
    obtain ⟨as, q⟩ := NHs.reads ds _ r
    exact ⟨_, .tuple ho hc hd q⟩
  | .none, _, x => x.elim
  | .bool _, _, x => x.elim
  | .list _, _, x => x.elim
  | .dict _, _, x => x.elim
theorem NHs.reads {h : Heap} : ∀ (d : List PyData) (v : List Value), NHs h d v → ∃ as, ReadsAll h v d as
  | [], v, e => by cases (show v = [] from e); exact ⟨_, .nil⟩
  | d :: ds, _, ⟨u, r, e, h1, h2⟩ => by
    subst e
    obtain ⟨as, q⟩ := NH.reads d u h1
    obtain ⟨bs, q'⟩ := NHs.reads ds r h2
    exact ⟨_, .cons q q'⟩
end
mutual
theorem kD_lay : ∀ d : PyData, kD d = true → d.canLay0 = true
  | .int _, _ => rfl
  | .str s, h => by simpa [PyData.canLay0, kD] using h
  | .tuple ds, h => by simpa [PyData.canLay0] using kDs_lay ds (by simpa [kD] using h)
  | .none, h => by simp [kD] at h
  | .bool _, h => by simp [kD] at h
  | .list _, h => by simp [kD] at h
  | .dict _, h => by simp [kD] at h
theorem kDs_lay : ∀ ds : List PyData, kDs ds = true → PyData.canLayAll0 ds = true
  | [], _ => rfl
  | d :: ds, h => by
    have h' : kD d = true ∧ kDs ds = true := by simpa [kDs] using h
    simp [PyData.canLayAll0, kD_lay d h'.1, kDs_lay ds h'.2]
end
mutual
theorem kD_eqv : ∀ x y : PyData, kD x = true → kD y = true → (PyData.eqv x y = true ↔ x = y)
  | .int i, .int j, _, _ => by simp [PyData.eqv]
  | .int i, .str j, _, _ => by simp [PyData.eqv]
  | .int i, .tuple j, _, _ => by simp [PyData.eqv]
  | .str i, .int j, _, _ => by simp [PyData.eqv]
  | .str i, .str j, _, _ => by simp [PyData.eqv]
  | .str i, .tuple j, _, _ => by simp [PyData.eqv]
  | .tuple i, .int j, _, _ => by simp [PyData.eqv]
  | .tuple i, .str j, _, _ => by simp [PyData.eqv]
  | .tuple i, .tuple j, h, h' => by
    have := kDs_eqv i j (by simpa [kD] using h) (by simpa [kD] using h')
    simp [PyData.eqv, this]
  | .none, _, h, _ => by simp [kD] at h
  | .bool _, _, h, _ => by simp [kD] at h
  | .list _, _, h, _ => by simp [kD] at h
  | .dict _, _, h, _ => by simp [kD] at h
  | .int _, .none, _, h => by simp [kD] at h
  | .int _, .bool _, _, h => by simp [kD] at h
  | .int _, .list _, _, h => by simp [kD] at h
  | .int _, .dict _, _, h => by simp [kD] at h
  | .str _, .none, _, h => by simp [kD] at h
  | .str _, .bool _, _, h => by simp [kD] at h
  | .str _, .list _, _, h => by simp [kD] at h
  | .str _, .dict _, _, h => by simp [kD] at h
  | .tuple _, .none, _, h => by simp [kD] at h
  | .tuple _, .bool _, _, h => by simp [kD] at h
  | .tuple _, .list _, _, h => by simp [kD] at h
  | .tuple _, .dict _, _, h => by simp [kD] at h
theorem kDs_eqv : ∀ x y : List PyData, kDs x = true → kDs y = true → (PyData.eqvAll x y = true ↔ x = y)
  | [], [], _, _ => by simp [PyData.eqvAll]
  | [], _ :: _, _, _ => by simp [PyData.eqvAll]
  | _ :: _, [], _, _ => by simp [PyData.eqvAll]
  | x :: xs, y :: ys, h, h' => by
    have a : kD x = true ∧ kDs xs = true := by simpa [kDs] using h
    have b : kD y = true ∧ kDs ys = true := by simpa [kDs] using h'
    simp [PyData.eqvAll, kD_eqv x y a.1 b.1, kDs_eqv xs ys a.2 b.2]
end
section
variable {prog : Program} {w : World} {E : Value → Shared → Prop}
mutual
theorem hash_ok : ∀ (d : PyData) (A : Around) (s : Shared) (v : Value) (Q : Int → Shared → Prop), A.units + d.depth < cLine → NH s.heap d v → Q (hashD w d) { s with toks := s.toks + drawsD d } → wpAny (model prog w) A (pyHash v) Q E s
  | .int i, A, s, v, Q, _, ⟨t, e⟩, h => by subst e; exact wpAny_pyHash_int h
  | .str i, A, s, v, Q, _, ⟨t, e⟩, h => by subst e; exact wpAny_pyHash_str h
  | .tuple ds, A, s, v, Q, hu, ⟨a, o, its, n, e, ho, hc, hd, r⟩, h => by
    subst e
    have hT : s.TypeIs (.ref a) "tuple" := ⟨o, ho, hc⟩
    have hu0 : A.units < cLine := by omega
    unfold pyHash
    first | unfold pyHashByItsType | skip
    first | refine wpAny_bind (wpAny_cRoomFor_or (.inr hu0) ?_) | skip
    refine wpAny_bind (wpAny_specialOf hT F.slot_tuple_hash.lookup ?_); show wpAny _ _ (if (some (Value.builtin "tuple.__hash__") == some Value.none) = true then _ else _) Q E s
    rw [if_neg (by rw [beq_builtin_none]; exact Bool.false_ne_true)]; refine wpAny_bind (wpAny_specialOf hT F.slot_tuple_hash.lookup ?_)
    show wpAny _ _ (callSpecialIfBoundUnlessNone? (.ref a) "__hash__" _ >>= _) Q E s; refine wpAny_bind (wpAny_callSpecialIfBoundUnlessNone?_slot hT F.slot_tuple_hash (wpAny_call_entry F.slot_tuple_hash hT F.entry_tuple_hash ?_ (F.args_tuple_hash_1 _)))
    show wpAny _ _ (Builtin.Tuple.tupleItemsOf (.ref a) >>= _) _ _ s; refine wpAny_bind (wpAny_tupleItemsOf ho hd ?_)
    refine wpAny_bind ?_
    rw [← Array.forIn_toList]
    refine hashes_ok ds A.in1 s its.toList #[] _ (by show A.units + 1 + _ < cLine; simp only [PyData.depth] at hu; omega) r ?_
    have e0 : ((#[] : Array Int) ++ (hashDs w ds).toArray).toList = hashDs w ds := by simp
    show wpAny _ _ (retInt (Builtin.Tuple.tupleHashOf ((#[] : Array Int) ++ (hashDs w ds).toArray).toList)) _ _ _
    rw [e0]
    refine wpAny_ret_mkInt ?_
    simp only [hashD, drawsD] at h
    generalize hx : Builtin.Tuple.tupleHashOf (hashDs w ds) = x at h
    show wpAny _ _ (if (decide (-(2 : Int) ^ 63 ≤ x) && decide (x < 2 ^ 63)) = true then _ else _) Q E _
    unfold reduceHash at h
    by_cases hr : (decide (-(2 : Int) ^ 63 ≤ x) && decide (x < 2 ^ 63)) = true
    · rw [if_pos hr] at h ⊢
      exact wpAny_pure (by simpa [Nat.add_assoc] using h)
    · rw [if_neg hr] at h ⊢
      exact wpAny_bind (wpAny_rule (wpAny_pure (by simpa [Nat.add_assoc] using h)))
  | .none, _, _, _, _, _, x, _ => x.elim
  | .bool _, _, _, _, _, _, x, _ => x.elim
  | .list _, _, _, _, _, _, x, _ => x.elim
  | .dict _, _, _, _, _, _, x, _ => x.elim
theorem hashes_ok : ∀ (ds : List PyData) (A : Around) (s : Shared) (vs : List Value) (b : Array Int) (Q : Array Int → Shared → Prop), A.units + PyData.depthAll ds < cLine → NHs s.heap ds vs →
    Q (b ++ (hashDs w ds).toArray) { s with toks := s.toks + drawsDs ds } →
    wpAny (model prog w) A (forIn vs b fun x (r : Array Int) => do
      let h ← pyHash x
      pure PUnit.unit
      pure (ForInStep.yield (r.push h))) Q E s
  | [], A, s, vs, b, Q, _, e, h => by
    cases (show vs = [] from e)
    rw [List.forIn_nil]
    exact wpAny_pure (by simpa [hashDs, drawsDs] using h)
  | d :: ds, A, s, vs, b, Q, hu, ⟨v, r, e, h1, h2⟩, h => by
    subst e
    rw [List.forIn_cons]
    have hm : PyData.depthAll (d :: ds) = max d.depth (PyData.depthAll ds) := rfl
    rw [hm] at hu
    refine wpAny_bind (wpAny_bind (hash_ok d A s v _ (by omega) h1 ?_))
    refine wpAny_bind (wpAny_pure (wpAny_pure ?_))
    refine hashes_ok ds A { s with toks := s.toks + drawsD d } r (b.push (hashD w d)) Q (by omega) h2 ?_
    have e1 : b ++ (hashDs w (d :: ds)).toArray = b.push (hashD w d) ++ (hashDs w ds).toArray := by simp [hashDs]
    have e2 : s.toks + drawsDs (d :: ds) = s.toks + drawsD d + drawsDs ds := by simp [drawsDs, Nat.add_assoc]
    rw [e1, e2] at h
    exact h
end
theorem quiet_val (n : Nat) {v : Value} (h : carriedByValue v = true) : eqIsQuiet n v = pure true := by
  cases v with
  | ref a => simp [carriedByValue] at h
  | _ => first | rfl | simp [eqIsQuiet] | (unfold eqIsQuiet; rfl)
mutual
theorem quiet_ok : ∀ (d : PyData) (n : Nat) (A : Around) (s : Shared) (v : Value) (Q : Bool → Shared → Prop), d.depth ≤ n → NH s.heap d v → Q true s → wpAny (model prog w) A (eqIsQuiet n v) Q E s
  | .int i, n, A, s, v, Q, _, ⟨t, e⟩, h => by subst e; rw [quiet_val n rfl]; exact wpAny_pure h
  | .str i, n, A, s, v, Q, _, ⟨t, e⟩, h => by subst e; rw [quiet_val n rfl]; exact wpAny_pure h
  | .tuple ds, 0, A, s, v, Q, hn, _, _ => by simp [PyData.depth] at hn
  | .tuple ds, n + 1, A, s, v, Q, hn, ⟨a, o, its, m, e, ho, hc, hd, r⟩, h => by
    subst e
    have hT : s.TypeIs (.ref a) "tuple" := ⟨o, ho, hc⟩
    unfold eqIsQuiet
    refine wpAny_bind (wpAny_specialOf hT F.slot_tuple_eq.lookup ?_); show wpAny _ _ (isInstance (.ref a) (.type "tuple") >>= _) _ _ s
    refine wpAny_bind (wpAny_isInstance hT isSubtype_tuple_tuple ?_); simp only [Bool.not_true, Bool.false_eq_true, if_false]
    refine wpAny_bind (wpAny_seqItems ho hd (wpAny_bind ?_)); show wpAny _ _ (forIn its _ _) _ _ s
    rw [← Array.forIn_toList]
    exact quiets_ok ds n A s its.toList _ (by simp only [PyData.depth] at hn; omega) r (wpAny_pure h)
  | .none, _, _, _, _, _, _, x, _ => x.elim
  | .bool _, _, _, _, _, _, _, x, _ => x.elim
  | .list _, _, _, _, _, _, _, x, _ => x.elim
  | .dict _, _, _, _, _, _, _, x, _ => x.elim
theorem quiets_ok : ∀ (ds : List PyData) (n : Nat) (A : Around) (s : Shared) (vs : List Value) (Q : Option Bool × PUnit → Shared → Prop), PyData.depthAll ds ≤ n → NHs s.heap ds vs → Q (none, ()) s →
    wpAny (model prog w) A (forIn vs (none, ()) fun y (r : Option Bool × PUnit) => do
      let b ← eqIsQuiet n y
      if (!b) = true then pure (ForInStep.done (some false, ())) else do
        pure PUnit.unit
        pure (ForInStep.yield (none, ()))) Q E s
  | [], n, A, s, vs, Q, _, e, h => by
    cases (show vs = [] from e)
    rw [List.forIn_nil]
    exact wpAny_pure h
  | d :: ds, n, A, s, vs, Q, hn, ⟨v, r, e, h1, h2⟩, h => by
    subst e
    rw [List.forIn_cons]
    have hm : PyData.depthAll (d :: ds) = max d.depth (PyData.depthAll ds) := rfl
    rw [hm] at hn
    refine wpAny_bind (wpAny_bind (quiet_ok d n A s v _ (by omega) h1 ?_))
    simp only [Bool.not_true, Bool.false_eq_true, if_false]
    exact wpAny_pure (quiets_ok ds n A s r Q (by omega) h2 h)
end
end
/-- a key: a tuple of whole numbers, texts and such tuples, not too deep -/
def isK (d : PyData) : Prop := (∃ ds, d = .tuple ds) ∧ kD d = true ∧ d.depth ≤ 8
noncomputable instance decD : DecidableEq PyData := fun a b => Classical.propDecidable (a = b)
noncomputable def nestKind (prog : Program) (w : World) : HeapKind prog w PyData where
  is := fun h d a => isK d ∧ NH h d (.ref a)
  hash := hashD w
  draws := drawsD
  room := fun A => A.units + 8 < cLine
  inj := fun hx hy => NH.inj _ _ _ hx.2 hy.2
  keeps := fun {h h' k a d o es ep} x ho hd hs => ⟨x.1, NH.keeps (fun b ob its n hb hdb => (hs.2 b (fun z => by
    subst z
    rw [ho] at hb
    cases hb
    rw [hd] at hdb
    cases hdb)).trans hb) _ _ x.2⟩
  pyHash := fun {A E s k a Q} hu hk h => hash_ok k A s _ Q (by have := hk.1.2.2; omega) hk.2 h
  eqBool := fun {A E s x y a b Q} hu hx hy h => by
    obtain ⟨as, ra⟩ := NH.reads _ _ hx.2
    obtain ⟨bs, rb⟩ := NH.reads _ _ hy.2
    refine SeqAt.eqAt_reads x y A s _ _ as bs ra rb (kD_lay _ hx.1.2.1) (kD_lay _ hy.1.2.1) (by have := hx.1.2.2; omega) prog w E Q ?_
    have e : PyData.eqv x y = decide (x = y) := by
      have := kD_eqv x y hx.1.2.1 hy.1.2.1
      by_cases q : x = y
      · rw [decide_eq_true q]; exact this.mpr q
      · rw [decide_eq_false q]
        cases z : PyData.eqv x y with
        | true => exact absurd (this.mp z) q
        | false => rfl
    rw [e]
    exact h
  quiet := fun {A E s k a Q} hk h => quiet_ok k 8 A s _ Q hk.1.2.2 hk.2 h
end KN
set_option Elab.async false
set_option linter.all false
set_option maxRecDepth 100000
/-! THE HAND LAYER, for ints, bools, texts, own classes, LISTS and tuples (index, slices, in, append, pop ..), calls, loops. Paste it whole ahead of your own text; what your proof does not reach may be deleted. -/
namespace L2
open PySem PySem.Spec PyProof.Rows

/-- a key: an int or a str -/
abbrev Key := Sum Int Str
def keyIs : Key → Value → Bool
  | .inl k, v => Value.isInt k v
  | .inr x, v => Value.isStrOf x v
def keyH (w : World) : Key → Int
  | .inl k => hashInt k
  | .inr x => hashStr w x
theorem keyIs_shape : ∀ {k : Key} {v : Value}, keyIs k v = true → (∃ i t, k = Sum.inl i ∧ v = Value.int i t) ∨ (∃ x t, k = Sum.inr x ∧ v = Value.str x t)
  | .inl i, v, h => by
    obtain ⟨t, e⟩ := Value.isInt_shape (k := i) (v := v) h
    exact .inl ⟨i, t, rfl, e⟩
  | .inr x, v, h => by
    obtain ⟨t, e⟩ := Value.isStrOf_shape (x := x) (v := v) h
    exact .inr ⟨x, t, rfl, e⟩
theorem keyIs_int (i : Int) (t : Tok) : keyIs (.inl i) (.int i t) = true := by simp [keyIs, Value.isInt]
theorem keyIs_str (x : Str) (t : Tok) : keyIs (.inr x) (.str x t) = true := by simp [keyIs, Value.isStrOf]
theorem key_ll (a b : Int) : decide ((Sum.inl a : Key) = Sum.inl b) = (a == b) := by
  by_cases e : a = b
  · subst e; simp
  · have h : ¬ (Sum.inl a : Key) = Sum.inl b := fun q => e (Sum.inl.inj q)
    rw [decide_eq_false h]
    exact (beq_eq_false_iff_ne.mpr e).symm
theorem key_rr (a b : Str) : decide ((Sum.inr a : Key) = Sum.inr b) = decide (a = b) := by
  by_cases e : a = b
  · subst e; simp
  · have h : ¬ (Sum.inr a : Key) = Sum.inr b := fun q => e (Sum.inr.inj q)
    rw [decide_eq_false h, decide_eq_false e]
theorem key_lr (a : Int) (b : Str) : decide ((Sum.inl a : Key) = Sum.inr b) = false := decide_eq_false (fun q => nomatch q)
theorem key_rl (a : Str) (b : Int) : decide ((Sum.inr a : Key) = Sum.inl b) = false := decide_eq_false (fun q => nomatch q)

def mixKind (prog : Program) (w : World) : PySem.KeyKind prog w Key where
  is := keyIs
  hash := keyH w
  inj := fun v a b ha hb => by
    rcases keyIs_shape ha with ⟨i, t, rfl, rfl⟩ | ⟨x, t, rfl, rfl⟩
    · rcases keyIs_shape hb with ⟨j, u, rfl, e⟩ | ⟨y, u, rfl, e⟩
      · injection e with e1 _; rw [e1]
      · exact nomatch e
    · rcases keyIs_shape hb with ⟨j, u, rfl, e⟩ | ⟨y, u, rfl, e⟩
      · exact nomatch e
      · injection e with e1 _; rw [e1]
  byValue := fun k v h => by
    rcases keyIs_shape h with ⟨i, t, rfl, rfl⟩ | ⟨x, t, rfl, rfl⟩ <;> rfl
  pyHash := fun hv h => by
    rcases keyIs_shape hv with ⟨i, t, rfl, rfl⟩ | ⟨x, t, rfl, rfl⟩
    · exact wpAny_pyHash_int h
    · exact wpAny_pyHash_str h
  eqBool := fun hu hv h => by
    rcases keyIs_shape hu with ⟨i, t, rfl, rfl⟩ | ⟨x, t, rfl, rfl⟩
    · rcases keyIs_shape hv with ⟨j, u, rfl, rfl⟩ | ⟨y, u, rfl, rfl⟩
      · rw [key_ll] at h; exact wpAny_eqBool_int h
      · rw [key_lr] at h; exact SeqAt.EqAt.int_str i t y u _ _ _ _ h
    · rcases keyIs_shape hv with ⟨j, u, rfl, rfl⟩ | ⟨y, u, rfl, rfl⟩
      · rw [key_rl] at h; exact SeqAt.EqAt.str_int x t j u _ _ _ _ h
      · rw [key_rr] at h; exact wpAny_eqBool_str h
  «strs» := fun k x t v h => by
    rcases keyIs_shape h with ⟨i, u, rfl, e⟩ | ⟨y, u, rfl, e⟩
    · exact nomatch e
    · injection e with e1 _
      subst e1
      cases v <;> rfl

theorem mixKind_int (prog : Program) (w : World) (i : Int) (t : Tok) : (mixKind prog w).is (.inl i) (.int i t) = true := keyIs_int i t
theorem mixKind_str (prog : Program) (w : World) (x : Str) (t : Tok) : (mixKind prog w).is (.inr x) (.str x t) = true := keyIs_str x t
end L2

namespace L2
open PySem PySem.Spec PyProof.Rows

/-- a value, without the heap -/
inductive V where
  | non | bl (b : Bool) | int (i : Int) | str (x : Str) | byt (b : Array UInt8) | flt (b : UInt64) | ref (a : Addr) | ty (n : String)
  deriving DecidableEq

def RelV : V → Value → Prop
  | .non, u => u = Value.none
  | .bl b, u => u = Value.bool b
  | .int i, u => ∃ t, u = Value.int i t
  | .str x, u => ∃ t, u = Value.str x t
  | .byt b, u => ∃ t, u = Value.bytes b t
  | .flt b, u => ∃ t, u = Value.float b t
  | .ref a, u => u = Value.ref a
  | .ty n, u => u = Value.type n

abbrev Vals : List V → List Value → Prop := Paired RelV
theorem Vals.length {xs : List V} {us : List Value} (r : Vals xs us) : xs.length = us.length := Paired.length r
theorem Vals.get : ∀ {xs : List V} {us : List Value} {i : Nat} {x : V}, Vals xs us → xs[i]? = some x → ∃ u, us[i]? = some u ∧ RelV x u
  | _, _, _, _, .nil, e => by simp at e
  | _, _, 0, _, .cons r _, e => by simp at e; subst e; exact ⟨_, rfl, r⟩
  | _, _, i + 1, x, .cons _ t, e => by
    obtain ⟨u, h1, h2⟩ := Vals.get (i := i) (x := x) t (by simpa using e)
    exact ⟨u, by simpa using h1, h2⟩
theorem Vals.set {x : V} {u : Value} (r : RelV x u) : ∀ {xs : List V} {us : List Value} (i : Nat), Vals xs us → Vals (xs.set i x) (us.set i u)
  | _, _, _, .nil => .nil
  | _, _, 0, .cons _ t => .cons r t
  | _, _, i + 1, .cons q t => .cons q (Vals.set r i t)
theorem Vals.append : ∀ {xs ys : List V} {us ws : List Value}, Vals xs us → Vals ys ws → Vals (xs ++ ys) (us ++ ws)
  | _, _, _, _, .nil, s => s
  | _, _, _, _, .cons r t, s => .cons r (Vals.append t s)
theorem Vals.take : ∀ {xs : List V} {us : List Value} (n : Nat), Vals xs us → Vals (xs.take n) (us.take n)
  | _, _, 0, _ => .nil
  | _, _, _ + 1, .nil => .nil
  | _, _, n + 1, .cons r t => .cons r (Vals.take n t)
theorem Vals.drop : ∀ {xs : List V} {us : List Value} (n : Nat), Vals xs us → Vals (xs.drop n) (us.drop n)
  | _, _, 0, r => r
  | _, _, _ + 1, .nil => .nil
  | _, _, n + 1, .cons _ t => Vals.drop n t
def RelO : Option V → Option Value → Prop
  | some v, some u => RelV v u
  | none, none => True
  | _, _ => False
def KV {κ : Type} : List (κ × V) → List (κ × Value) → Prop := Paired fun (p : κ × V) (q : κ × Value) => p.1 = q.1 ∧ RelV p.2 q.2

/-- a key of a dict (00_mix): an int or a text -/
def kV : Key → V
  | .inl i => .int i
  | .inr x => .str x

/-- what stands at a tracked address -/
inductive HO where
  /-- a list -/
  | lst (xs : List V)
  /-- a tuple (never changes) -/
  | tup (xs : List V)
  /-- a dict whose keys are ints and texts; one whose keys are tuples of ints and texts (the empty one is both) -/
  | dK (kvs : List (Key × V)) | dT (kvs : List (List Key × V))
  | dN (ks : List PyData)
  /-- a set of ints: its members, its size -/
  | set (S : Int → Bool) (n : Nat)
  /-- an instance of the class at C, its dict at dx, its attributes -/
  | ins (C dx : Addr) (fs : List (Str × V))
  /-- the dict of the instance at x -/
  | own (x : Addr)
  /-- the dict of an exception -/
  | xd (fs : List (Str × V))
  /-- a bound method, f of x -/
  | met (f x : Addr)
  /-- a range object lo, lo + 1, .. below hi -/
  | rng (lo hi : Int)
  /-- a thing that is known to the object (the script; a dict while a loop walks it): read, never written while it is so -/
  | frz (o : Obj) (u : HO)
  /-- a code object's table -/
  | tbl (ps : Array Value)
  /-- any other thing, by what is true of its one object (a def of one's own: SetO a S n := HO.ext fun h => ..) -/
  | ext (φ : Heap → Prop)

abbrev Hp := Addr → Option HO
def upd (H : Hp) (a : Addr) (o : HO) : Hp := fun b => if b = a then some o else H b
theorem upd_same {H : Hp} {a : Addr} {o : HO} : upd H a o a = some o := by unfold upd; rw [if_pos rfl]
theorem upd_ne {H : Hp} {a b : Addr} {o : HO} (h : b ≠ a) : upd H a o b = H b := by unfold upd; rw [if_neg h]
theorem upd_upd {H : Hp} {a : Addr} {o u : HO} : upd (upd H a o) a u = upd H a u := by
  funext b; unfold upd; split <;> rfl
theorem ne_of_none {H : Hp} {a b : Addr} {o : HO} (h : H a = some o) (h' : H b = none) : a ≠ b := by
  intro e; subst e; rw [h] at h'; cases h'

mutual
def NR (H : Hp) : PyData → V → Prop
  | .int i, v => v = .int i
  | .str x, v => v = .str x
  | .tuple ds, v => ∃ a vs, v = .ref a ∧ H a = some (.tup vs) ∧ NRs H ds vs
  | _, _ => False
def NRs (H : Hp) : List PyData → List V → Prop
  | [], vs => vs = []
  | d :: ds, vs => ∃ v r, vs = v :: r ∧ NR H d v ∧ NRs H ds r
end
mutual
theorem NR.mono {H H' : Hp} (ht : ∀ b xs, H b = some (.tup xs) → H' b = some (.tup xs)) : ∀ (d : PyData) (v : V), NR H d v → NR H' d v
  | .int _, _, x => x
  | .str _, _, x => x
  | .tuple ds, _, ⟨a, vs, e, h, r⟩ => ⟨a, vs, e, ht _ _ h, NRs.mono ht ds vs r⟩
  | .none, _, x => x.elim
  | .bool _, _, x => x.elim
  | .list _, _, x => x.elim
  | .dict _, _, x => x.elim
theorem NRs.mono {H H' : Hp} (ht : ∀ b xs, H b = some (.tup xs) → H' b = some (.tup xs)) : ∀ (d : List PyData) (v : List V), NRs H d v → NRs H' d v
  | [], _, x => x
  | d :: ds, _, ⟨v, r, e, h, t⟩ => ⟨v, r, e, NR.mono ht d v h, NRs.mono ht ds r t⟩
end
section
variable (P : Program) (w : World)
def ObjOk (H : Hp) (h : Heap) (a : Addr) : HO → Prop
  | .lst xs => xs.length ≤ sizeLine ∧ ∃ (its : List Value) (n : Nat), Vals xs its ∧ h.get? a = some { cls := .type "list", data := .seq its.toArray n }
  | .tup xs => xs.length ≤ sizeLine ∧ ∃ its : List Value, Vals xs its ∧ IsTup h a its.toArray
  | .dK kvs => kvs.length ≤ sizeLine ∧ (a == sysModules) = false ∧ ∃ vs, KV kvs vs ∧ h.DictOf (mixKind P w) a vs
  | .dT kvs => kvs.length ≤ sizeLine ∧ (a == sysModules) = false ∧ ∃ xs : List (List Key × Addr × Value),
      Paired (fun (p : List Key × V) (q : List Key × Addr × Value) => p.1 = q.1 ∧ H q.2.1 = some (.tup (p.1.map kV)) ∧ RelV p.2 q.2.2) kvs xs ∧
      ∃ o es ep, h.get? a = some o ∧ o.ExactDict ∧ o.data = .dict es ep ∧ es.toList = xs.map (entryOfKey (tupleKind (mixKind P w))) ∧ (xs.map (·.1)).Nodup
  | .dN ks => ks.length ≤ sizeLine ∧ (a == sysModules) = false ∧ ∃ xs : List (PyData × Addr × Value), xs.map (·.1) = ks ∧ (∀ x ∈ xs, KN.isK x.1 ∧ NR H x.1 (.ref x.2.1)) ∧
      ∃ o es ep, h.get? a = some o ∧ o.ExactDict ∧ o.data = .dict es ep ∧ es.toList = xs.map (entryOfKey (KN.nestKind P w)) ∧ (xs.map (·.1)).Nodup
  | .set S n => h.SetOf (intKind P w) a S n
  | .ins C dx fs => H dx = some (.own a) ∧ fs.length ≤ 1000 ∧ dx ≠ a ∧ h.get? a = some (PySem.W.instObj C dx) ∧
      ∃ mA, h.Ns1 dx mA ∧ (∀ f, RelO (fs.lookup f) (mA f)) ∧ PySem.Within mA (fs.map (·.1))
  | .own _ => ∃ o, h.get? a = some o
  | .xd fs => ∃ mA, h.Ns1 a mA ∧ ∀ f, RelO (fs.lookup f) (mA f)
  | .rng lo hi => ∃ t u v, h.get? a = some { cls := .type "range", data := .fields #[.int lo t, .int hi u, .int 1 v] }
  | .frz o u => h.get? a = some o ∧ ObjOk H h a u
  | .tbl ps => h.get? a = some { cls := .none, data := .fields ps }
  | .met f x => h.get? a = some (PySem.W.methodObj (.ref f) (.ref x))
  | .ext φ => φ h ∧ (∃ o, h.get? a = some o) ∧ ∀ h1 h2 : Heap, φ h1 → (∀ o, h1.get? a = some o → h2.get? a = some o) → φ h2
/-- the abstract heap is held -/
def HOk (H : Hp) (h : Heap) : Prop := ∀ a o, H a = some o → ObjOk P w H h a o
end

section
variable {P : Program} {w : World} {H H' : Hp} {h h' : Heap} {a : Addr} {o : HO}
theorem ObjOk.lt (x : ObjOk P w H h a o) : a < h.objs.size := by
  cases o with
  | lst xs => obtain ⟨_, _, _, _, e⟩ := x; exact Heap.lt_size e
  | tup xs => obtain ⟨_, _, _, p⟩ := x; exact p.lt
  | dK kvs => obtain ⟨_, _, _, _, o, _, _, e, _⟩ := x; exact Heap.lt_size e
  | dT kvs => obtain ⟨_, _, _, _, o, _, _, e, _⟩ := x; exact Heap.lt_size e
  | dN ks => obtain ⟨_, _, _, _, _, o, _, _, e, _⟩ := x; exact Heap.lt_size e
  | set S n => obtain ⟨o, _, _, _, e, _⟩ := x; exact Heap.lt_size e
  | ins C dx fs => obtain ⟨_, _, _, e, _⟩ := x; exact Heap.lt_size e
  | own y => obtain ⟨_, e⟩ := x; exact Heap.lt_size e
  | xd fs => obtain ⟨_, ⟨_, _, _, e, _⟩, _⟩ := x; exact Heap.lt_size e
  | rng lo hi => obtain ⟨_, _, _, e⟩ := x; exact Heap.lt_size e
  | frz ob u => obtain ⟨e, _⟩ := x; exact Heap.lt_size e
  | tbl ps => exact Heap.lt_size (show h.get? a = some _ from x)
  | met f y => exact Heap.lt_size (show h.get? a = some _ from x)
  | ext φ => obtain ⟨_, ⟨_, e⟩, _⟩ := x; exact Heap.lt_size e
theorem Paired.mapP {α β : Type} {F G : α → β → Prop} : ∀ {l₁ : List α} {l₂ : List β}, Paired F l₁ l₂ → (∀ a b, F a b → G a b) → Paired G l₁ l₂
  | _, _, .nil, _ => .nil
  | _, _, .cons r t, f => .cons (f _ _ r) (Paired.mapP t f)
/-- what an object's description leans on: its own object, its own dict, the tuples -/
theorem ObjOk.stay (x : ObjOk P w H h a o) (k : ∀ b u, (b = a ∨ H b = some (.own a)) → h.get? b = some u → h'.get? b = some u)
    (ho : ∀ b, H b = some (.own a) → H' b = some (.own a)) (ht : ∀ b xs, H b = some (.tup xs) → H' b = some (.tup xs)) : ObjOk P w H' h' a o := by
  induction o with
  | lst xs => obtain ⟨z, its, n, r, e⟩ := x; exact ⟨z, its, n, r, k _ _ (.inl rfl) e⟩
  | tup xs => obtain ⟨z, its, r, ob, e, c⟩ := x; exact ⟨z, its, r, ob, k _ _ (.inl rfl) e, c⟩
  | dK kvs => obtain ⟨z, y, vs, r, ob, es, ep, e, c⟩ := x; exact ⟨z, y, vs, r, ob, es, ep, k _ _ (.inl rfl) e, c⟩
  | dT kvs =>
    obtain ⟨z, y, xs, r, ob, es, ep, e, c⟩ := x
    exact ⟨z, y, xs, Paired.mapP r fun p q z => ⟨z.1, ht _ _ z.2.1, z.2.2⟩, ob, es, ep, k _ _ (.inl rfl) e, c⟩
  | dN ks =>
    obtain ⟨z, y, xs, r1, r2, ob, es, ep, e, c⟩ := x
    exact ⟨z, y, xs, r1, fun q hq => ⟨(r2 q hq).1, NR.mono ht _ _ (r2 q hq).2⟩, ob, es, ep, k _ _ (.inl rfl) e, c⟩
  | set S n => obtain ⟨ob, es, ep, t, e, c⟩ := x; exact ⟨ob, es, ep, t, k _ _ (.inl rfl) e, c⟩
  | ins C dx fs =>
    obtain ⟨d, z, ne, e, mA, ⟨od, es, ep, e2, c⟩, r⟩ := x
    exact ⟨ho _ d, z, ne, k _ _ (.inl rfl) e, mA, ⟨od, es, ep, k _ _ (.inr d) e2, c⟩, r⟩
  | own y => obtain ⟨ob, e⟩ := x; exact ⟨ob, k _ _ (.inl rfl) e⟩
  | xd fs => obtain ⟨mA, ⟨od, es, ep, e, c⟩, r⟩ := x; exact ⟨mA, ⟨od, es, ep, k _ _ (.inl rfl) e, c⟩, r⟩
  | rng lo hi => obtain ⟨t, u, v, e⟩ := x; exact ⟨t, u, v, k _ _ (.inl rfl) e⟩
  | frz ob u ih => obtain ⟨e, q⟩ := x; exact ⟨k _ _ (.inl rfl) e, ih q⟩
  | tbl ps =>
    have e : h.get? a = some { cls := .none, data := .fields ps } := x
    show h'.get? a = some { cls := .none, data := .fields ps }
    exact k a _ (.inl rfl) e
  | met f y =>
    have e : h.get? a = some (PySem.W.methodObj (.ref f) (.ref y)) := x
    show h'.get? a = some (PySem.W.methodObj (.ref f) (.ref y))
    exact k a _ (.inl rfl) e
  | ext φ => obtain ⟨p, ⟨o, e⟩, st⟩ := x; exact ⟨st _ _ p fun o q => k _ _ (.inl rfl) q, ⟨o, k _ _ (.inl rfl) e⟩, st⟩
theorem HOk.lt (x : HOk P w H h) (e : H a = some o) : a < h.objs.size := (x a o e).lt
theorem HOk.fresh (x : HOk P w H h) (e : h.objs.size ≤ a) : H a = none := by
  cases q : H a with
  | none => rfl
  | some u => exact absurd (Nat.lt_of_lt_of_le (x.lt q) e) (Nat.lt_irrefl _)
/-- every object of the heap is kept -/
theorem HOk.kept (x : HOk P w H h) (k : ∀ b u, h.get? b = some u → h'.get? b = some u) : HOk P w H h' := fun a o e =>
  (x a o e).stay (fun b u _ q => k b u q) (fun _ q => q) fun _ _ q => q
/-- a new object is laid and tracked -/
theorem HOk.laid (x : HOk P w H h) (k : ∀ b u, h.get? b = some u → h'.get? b = some u) (hp : h.objs.size ≤ a) (new : ObjOk P w (upd H a o) h' a o) : HOk P w (upd H a o) h' := fun b u e => by
  have hn := x.fresh hp
  by_cases hb : b = a
  · subst hb; rw [upd_same] at e; cases e; exact new
  · rw [upd_ne hb] at e
    exact (x b u e).stay (fun c v _ q => k c v q) (fun c q => by rw [upd_ne (ne_of_none q hn)]; exact q) fun c xs q => by rw [upd_ne (ne_of_none q hn)]; exact q
end

/-- what may be read as u: it is u, or a known u -/
def Rd (H : Hp) (a : Addr) (u : HO) : Prop := H a = some u ∨ ∃ o, H a = some (.frz o u)
theorem Rd.of {H : Hp} {a : Addr} {u : HO} (h : H a = some u) : Rd H a u := .inl h
theorem Rd.ok {P : Program} {w : World} {H : Hp} {h : Heap} {a : Addr} {u : HO} (r : Rd H a u) (x : HOk P w H h) : ObjOk P w H h a u := by
  rcases r with r | ⟨o, r⟩
  · exact x a u r
  · obtain ⟨_, q⟩ := x a _ r
    exact q
/-- what may be written -/
def Mut : Option HO → Prop
  | some (.lst _) => True
  | some (.dK _) => True
  | some (.dT _) => True
  | some (.dN _) => True
  | some (.set _ _) => True
  | some (.ins _ _ _) => True
  | some (.ext _) => True
  | _ => False
section
variable {P : Program} {w : World} {H : Hp} {h h' : Heap} {x e : Addr} {o' : HO}
/-- the object at e is changed: x itself, or the dict of the instance x -/
theorem HOk.write (ok : HOk P w H h) (mu : Mut (H x)) (he : e = x ∨ H e = some (.own x)) (k : ∀ b u, b ≠ e → h.get? b = some u → h'.get? b = some u) (heo : ∃ u, h'.get? e = some u)
    (new : ObjOk P w (upd H x o') h' x o') : HOk P w (upd H x o') h' := fun b u q => by
  have nown : ∀ c y, H c = some (.own y) → c ≠ x := fun c y r z => by subst z; rw [r] at mu; exact mu
  have ntup : ∀ c xs, H c = some (.tup xs) → c ≠ x := fun c xs r z => by subst z; rw [r] at mu; exact mu
  by_cases hb : b = x
  · subst hb; rw [upd_same] at q; cases q; exact new
  · rw [upd_ne hb] at q
    by_cases hbe : b = e
    · have q' : H b = some (.own x) := by
        rcases he with z | z
        · exact absurd (hbe.trans z) hb
        · rw [hbe]; exact z
      rw [q] at q'; cases q'
      obtain ⟨v, hv⟩ := heo
      exact ⟨v, by rw [hbe]; exact hv⟩
    · refine (ok b u q).stay (fun c v hc r => k c v ?_ r) (fun c r => by rw [upd_ne (nown c b r)]; exact r) fun c xs r => by rw [upd_ne (ntup c xs r)]; exact r
      rcases hc with rfl | hc
      · exact hbe
      · rintro rfl
        rcases he with z | z
        · exact nown c b hc z
        · rw [hc] at z; cases z; exact hb rfl
end

/-! ### kept unless tracked; of the frames at fs (the callers') the slots may change (an exception that passes writes there); of the records at ex (iterators) nothing is said -/
structure Un (fs ex : List Addr) (H H' : Hp) (h h' : Heap) : Prop where
  keep : ∀ b o, h.get? b = some o → H b = none → b ∉ fs → b ∉ ex → h'.get? b = some o
  slot : ∀ b o, h.get? b = some o → H b = none → b ∈ fs → b ∉ ex → ∃ sl, h'.get? b = some { o with slots := sl }
  free : ∀ b o, h.get? b = some o → H b = none → b ∉ ex → H' b = none
  there : ∀ b o, h.get? b = some o → b ∉ ex → ∃ o', h'.get? b = some o'
  tups : ∀ b xs, H b = some (.tup xs) → H' b = some (.tup xs)
  frzs : ∀ b o u, H b = some (.frz o u) → H' b = some (.frz o u)
  tbls : ∀ b ps, H b = some (.tbl ps) → ∃ more, H' b = some (.tbl (ps ++ more))
section
variable {fs fs' ex ex' : List Addr} {H H1 H2 : Hp} {h h1 h2 h' : Heap} {a x e : Addr} {o : HO}
theorem Un.any (u : Un fs ex H H1 h h1) {b : Addr} {ob : Obj} (q : h.get? b = some ob) (n : H b = none) (hx : b ∉ ex) : ∃ sl, h1.get? b = some { ob with slots := sl } := by
  by_cases hb : b ∈ fs
  · exact u.slot b ob q n hb hx
  · exact ⟨ob.slots, u.keep b ob q n hb hx⟩
theorem Un.trans (a : Un fs ex H H1 h h1) (b : Un fs ex H1 H2 h1 h2) : Un fs ex H H2 h h2 where
  keep := fun c ob q n hc hx => b.keep c ob (a.keep c ob q n hc hx) (a.free c ob q n hx) hc hx
  slot := fun c ob q n hc hx => by
    obtain ⟨sl, e1⟩ := a.slot c ob q n hc hx
    obtain ⟨sl', e2⟩ := b.slot c _ e1 (a.free c ob q n hx) hc hx
    exact ⟨sl', e2⟩
  free := fun c ob q n hx => by
    obtain ⟨o', e1⟩ := a.there c ob q hx
    exact b.free c o' e1 (a.free c ob q n hx) hx
  there := fun c ob q hx => by
    obtain ⟨o', e1⟩ := a.there c ob q hx
    exact b.there c o' e1 hx
  tups := fun c xs q => b.tups c xs (a.tups c xs q)
  frzs := fun c ob xs q => b.frzs c ob xs (a.frzs c ob xs q)
  tbls := fun c ps q => by
    obtain ⟨m1, e1⟩ := a.tbls c ps q
    obtain ⟨m2, e2⟩ := b.tbls c _ e1
    exact ⟨m1 ++ m2, by rw [e2, Array.append_assoc]⟩
theorem Un.kept (k : ∀ b u, h.get? b = some u → h'.get? b = some u) : Un fs ex H H h h' :=
  ⟨fun b ob q _ _ _ => k b ob q, fun b ob q _ _ _ => ⟨ob.slots, k b ob q⟩, fun _ _ _ n _ => n, fun b ob q _ => ⟨ob, k b ob q⟩, fun _ _ q => q, fun _ _ _ q => q, fun _ ps q => ⟨#[], by rw [q]; simp⟩⟩
theorem Un.refl : Un fs ex H H h h := Un.kept fun _ _ q => q
theorem Un.laid (k : ∀ b u, h.get? b = some u → h'.get? b = some u) (hp : h.objs.size ≤ a) (hn : H a = none) : Un fs ex H (upd H a o) h h' where
  keep := fun b u q _ _ _ => k b u q
  slot := fun b u q _ _ _ => ⟨u.slots, k b u q⟩
  free := fun b u q n _ => by rw [upd_ne (Nat.ne_of_lt (Nat.lt_of_lt_of_le (Heap.lt_size q) hp))]; exact n
  there := fun b u q _ => ⟨u, k b u q⟩
  tups := fun b xs q => by rw [upd_ne (ne_of_none q hn)]; exact q
  frzs := fun b u xs q => by rw [upd_ne (ne_of_none q hn)]; exact q
  tbls := fun b ps q => ⟨#[], by rw [upd_ne (ne_of_none q hn), q]; simp⟩
theorem Un.write (mu : Mut (H x)) (he : e = x ∨ H e = some (.own x)) (k : ∀ b u, b ≠ e → h.get? b = some u → h'.get? b = some u) (heo : ∃ u, h'.get? e = some u) : Un fs ex H (upd H x o) h h' := by
  have hx : ∀ b, H b = none → b ≠ x := fun b n z => by subst z; rw [n] at mu; exact mu
  have hb : ∀ b, H b = none → b ≠ e := fun b n z => by
    subst z
    rcases he with r | r
    · exact hx b n r
    · rw [n] at r; cases r
  have hm : ∀ b u, H b = some u → ¬ Mut (some u) → b ≠ x := fun b u q nm z => by subst z; rw [q] at mu; exact nm mu
  refine ⟨fun b u q n _ _ => k b u (hb b n) q, fun b u q n _ _ => ⟨u.slots, k b u (hb b n) q⟩, fun b u q n _ => by rw [upd_ne (hx b n)]; exact n, fun b u q _ => ?_,
    fun b xs q => by rw [upd_ne (hm b _ q fun z => z)]; exact q, fun b u xs q => by rw [upd_ne (hm b _ q fun z => z)]; exact q, fun b ps q => ⟨#[], by rw [upd_ne (hm b _ q fun z => z), q]; simp⟩⟩
  by_cases hbe : b = e
  · subst hbe; exact heo
  · exact ⟨u, k b u hbe q⟩
theorem Un.mono (u : Un fs ex H H1 h h1) (hs : ∀ b ∈ fs, b ∈ fs') (hx : ∀ b ∈ ex, b ∈ ex') : Un fs' ex' H H1 h h1 :=
  ⟨fun b ob q n hb he => u.keep b ob q n (fun z => hb (hs b z)) fun z => he (hx b z), fun _ _ q n _ he => u.any q n fun z => he (hx _ z), fun b ob q n he => u.free b ob q n fun z => he (hx b z), fun b ob q he => u.there b ob q fun z => he (hx b z), u.tups, u.frzs, u.tbls⟩
end

/-! ### the heap without what is tracked -/
def trk (h : Heap) (H : Hp) : List Addr := (List.range h.objs.size).filter fun a => (H a).isSome
def hidT (h : Heap) (H : Hp) : Heap := PySem.W.hideAll h (trk h H)
theorem hidT_size (h : Heap) (H : Hp) : (hidT h H).objs.size = h.objs.size := PySem.W.hideAll_size _ _
theorem hidT_get {h : Heap} {H : Hp} {b : Addr} {o : Obj} (e : h.get? b = some o) (n : H b = none) : (hidT h H).get? b = some o :=
  PySem.W.hideAll_get _ e fun hm => by
    have q : (H b).isSome = true := (List.mem_filter.mp hm).2
    rw [n] at q; simp at q
theorem of_hidT {h : Heap} {H : Hp} {b : Addr} {o : Obj} (e : (hidT h H).get? b = some o) : h.get? b = some o ∧ H b = none := by
  have e' : h.get? b = some o := PySem.W.of_hideAll (trk h H) e
  refine ⟨e', ?_⟩
  cases q : H b with
  | none => rfl
  | some x =>
    have hm : b ∈ trk h H := List.mem_filter.mpr ⟨List.mem_range.mpr (Heap.lt_size e'), by simp [q]⟩
    have z : (hidT h H).get? b = none := PySem.W.hideAll_none (trk h H) hm
    rw [z] at e; cases e

/-! ### OpenK's ledger, filled with every new object but one -/
def allNews (g h : Heap) (L : Addr) : List (Addr × Obj) := (List.range h.objs.size).filterMap fun a => if a = L ∨ (g.get? a).isSome = true then none else (h.get? a).map fun o => (a, o)
def rest (g h : Heap) (L d : Addr) : List (Addr × Obj) := (allNews g h L).filter fun p => decide (p.1 ≠ d)
end L2

namespace L2
open PySem PySem.Spec PyProof.Rows

/-- the module's facts, over the base: the heap at the law's entry without what is tracked there -/
structure Mod (K : PySem.W.Frag) (mg : Str → Option Value) (base : Heap) : Prop where
  kin : K.In base
  glob : base.Ns mainGlobals mg
  blt : ∃ mb, base.Ns builtinsNs mb ∧ ∀ x : Str, x ≠ "__name__" → mb x = bootBuiltins x
  nolimit : base.NoLimit

/-- the context: a def's body (or a comprehension's block) running. base: fixed through the whole law; s₀, H₀: the entry; outer: the frames whose slots others may change (a def's callers); stack: all frames that run;
   ex: iterators that were made ahead of the entry and are walked here (a comprehension's); fn: the names whose cells were made at the entry (a def: all; a comprehension's block: its own); calm: not within an except suite; pn: pins that every state bears; xe: what is wanted of an exception that leaves the code -/
structure Cx where
  prog : Program
  w : World
  K : PySem.W.Frag
  mg : Str → Option Value
  base : Heap
  A : Around
  N : List Str
  s₀ : Shared
  H₀ : Hp
  env : Env
  outer : List Env
  stack : List Env
  ex : List Addr
  fn : Str → Bool
  calm : Bool
  pn : List (Addr × Obj)
  xe : Value → Shared → Prop
/-- the callers' frames -/
def frs (l : List Env) : List Addr := l.filterMap (·.frame)
abbrev Cx.fs (X : Cx) : List Addr := frs X.outer

def Vis (sc : Scope) (x : Str) : Prop := sc.names.lookup x = some .local ∨ sc.names.lookup x = some .cell ∨ sc.names.lookup x = some .free
def Loc (sc : Scope) (x : Str) : Prop := sc.names.lookup x = some .local ∨ sc.names.lookup x = some .cell
def Look (env : Env) (h : Heap) (m : Str → Option Value) (x : Str) (u : Value) : Prop :=
  (env.kindOf x = some .local ∧ m x = some u) ∨ ((env.kindOf x = some .cell ∨ env.kindOf x = some .free) ∧ ∃ c, env.cells.lookup x = some c ∧ h.IsCell c (some u))

def stV : Value → Option V
  | .int i _ => some (.int i)
  | .str x _ => some (.str x)
  | _ => none
def stVs : List Value → Option (List V)
  | [] => some []
  | v :: r => match stV v, stVs r with
    | some x, some xs => some (x :: xs)
    | _, _ => none
/-- a tuple of whole numbers and texts -/
def stO : Obj → Option (List V)
  | ⟨.type c, _, .seq its _, _⟩ => if c = "tuple" ∧ its.size ≤ sizeLine then stVs its.toList else none
  | _ => none
def Sb (K : PySem.W.Frag) (H : Hp) (b : Addr) (o : Obj) : Prop := (H b = none ∨ ∃ u, H b = some (.frz o u)) ∧ ∀ vs, K.lookup b = some o → stO o = some vs → H b = some (.frz o (.tup vs))
theorem stVs_rel : ∀ {us : List Value} {vs : List V}, stVs us = some vs → Vals vs us
  | [], vs, e => by cases e; exact .nil
  | u :: us, vs, e => by
    unfold stVs at e
    split at e
    · rename_i x xs h1 h2
      cases e
      refine .cons ?_ (stVs_rel h2)
      unfold stV at h1
      split at h1
      · cases h1; exact ⟨_, rfl⟩
      · cases h1; exact ⟨_, rfl⟩
      · cases h1
    · cases e
theorem stO_ok {P : Program} {w : World} {H : Hp} {h : Heap} {b : Addr} {o : Obj} {vs : List V} (e : h.get? b = some o) (q : stO o = some vs) : ObjOk P w H h b (.tup vs) := by
  unfold stO at q
  split at q
  · rename_i c dd its n sl
    split at q
    · rename_i hc
      obtain ⟨rfl, hz⟩ := hc
      have r := stVs_rel q
      have hl : vs.length ≤ sizeLine := by rw [r.length]; simpa using hz
      exact ⟨hl, its.toList, r, _, e, rfl, n, by simp⟩
    · cases q
  · cases q
structure Cx.Ok (X : Cx) : Prop where
  mod : Mod X.K X.mg X.base
  kind : X.env.scope.kind = .function
  glob : X.env.globals = mainGlobals
  blt : X.env.builtins = builtinsNs
  above : X.s₀.heap.objs.size ≤ X.env.locals
  inj : ∀ x y c, X.env.cells.lookup x = some c → X.env.cells.lookup y = some c → x = y
  has : ∀ x, (X.env.kindOf x = some .cell ∨ X.env.kindOf x = some .free) → ∃ c, X.env.cells.lookup x = some c
  cab : ∀ x c, X.fn x = true → X.env.cells.lookup x = some c → X.s₀.heap.objs.size ≤ c
  hd : X.calm = true → X.A.handled = none
  frames : X.A.frames = some X.stack
  stk : X.stack = X.outer ∨ (X.stack = X.env :: X.outer ∧ X.env.frame = some X.env.locals)
  exf : ∀ b ∈ X.ex, b ≠ X.env.locals ∧ ∀ x c, X.env.cells.lookup x = some c → c ≠ b
  bs : ∀ b o, X.base.get? b = some o → X.s₀.heap.get? b = some o ∧ Sb X.K X.H₀ b o
  bsz : X.base.objs.size ≤ X.s₀.heap.objs.size
  noex : ∀ b o, X.base.get? b = some o → b ∉ X.ex
  exfs : ∀ b ∈ X.ex, b ∉ X.fs
  funs : X.s₀.heap.FunFrames X.base X.outer
  frf : ∀ b ∈ X.fs, X.H₀ b = none

structure Inv (X : Cx) (pins : List (Addr × Obj)) (σ : List (Option V)) (H : Hp) (s : Shared) : Prop where
  ok : X.Ok
  os : s.os = X.s₀.os
  bare : AllBare s.gens
  base : Un X.fs X.ex X.H₀ H X.s₀.heap s.heap
  loc : ∃ m, s.heap.Ns X.env.locals m ∧ ∀ (i : Nat) (x : Str) (v : V), X.N[i]? = some x → σ[i]? = some (some v) → Vis X.env.scope x → ∃ u, RelV v u ∧ Look X.env s.heap m x u
  cell : ∀ x c, X.env.cells.lookup x = some c → ∃ v, s.heap.IsCell c v
  free : H X.env.locals = none
  freeC : ∀ x c, X.env.cells.lookup x = some c → H c = none
  pin : ∀ p ∈ X.pn ++ pins, s.heap.get? p.1 = some p.2 ∧ H p.1 = none ∧ p.1 ≠ X.env.locals ∧ p.1 ∉ X.fs ∧ ∀ v, p.2.data ≠ .cell v
  hok : HOk X.prog X.w H s.heap
  len : σ.length = X.N.length

section
variable {X : Cx} {pins : List (Addr × Obj)} {σ : List (Option V)} {H H' : Hp} {s : Shared} {h' : Heap}

theorem Cx.Ok.nofr (ok : X.Ok) {b : Addr} {o : Obj} (e : X.base.get? b = some o) : b ∉ X.fs := fun hb => by
  have := (ok.funs.mem hb).1
  rw [e] at this; cases this
theorem Inv.bs (I : Inv X pins σ H s) : ∀ b o, X.base.get? b = some o → s.heap.get? b = some o ∧ Sb X.K H b o := fun b o e => by
  obtain ⟨h1, h2, h3⟩ := I.ok.bs b o e
  have h4 : ∀ vs, X.K.lookup b = some o → stO o = some vs → H b = some (.frz o (.tup vs)) := fun vs k q => I.base.frzs b o _ (h3 vs k q)
  rcases h2 with h2 | ⟨u, h2⟩
  · exact ⟨I.base.keep b o h1 h2 (I.ok.nofr e) (I.ok.noex b o e), .inl (I.base.free b o h1 h2 (I.ok.noex b o e)), h4⟩
  · have q := I.base.frzs b o u h2
    exact ⟨(I.hok b _ q).1, .inr ⟨u, q⟩, h4⟩
theorem Inv.bk (I : Inv X pins σ H s) : ∀ b o, X.base.get? b = some o → s.heap.get? b = some o := fun b o e => (I.bs b o e).1
theorem Inv.mod (I : Inv X pins σ H s) : Mod X.K X.mg X.base := I.ok.mod
theorem Inv.kIn (I : Inv X pins σ H s) : X.K.In s.heap := I.ok.mod.kin.keeps I.bk
theorem Inv.nolimit (I : Inv X pins σ H s) : s.heap.NoLimit := I.ok.mod.nolimit.keeps I.bk
/-- the frame over the base: for OpenK's rules (K.In X.base is I.mod.kin) -/
theorem Inv.fr (I : Inv X pins σ H s) : ∃ m, Fr X.base X.env.locals s.heap m :=
  let ⟨m, hn, _⟩ := I.loc
  ⟨m, hn, I.bk, Nat.le_trans I.ok.bsz I.ok.above⟩
theorem Inv.lt (I : Inv X pins σ H s) : X.env.locals < s.heap.objs.size := let ⟨_, hn, _⟩ := I.loc; hn.lt
theorem Inv.sz (I : Inv X pins σ H s) : X.s₀.heap.objs.size ≤ s.heap.objs.size := Nat.le_trans I.ok.above (Nat.le_of_lt I.lt)
theorem Inv.nofs (I : Inv X pins σ H s) {a : Addr} (h : s.heap.objs.size ≤ a) : a ∉ X.fs := fun hb => by
  obtain ⟨_, o, ho, _⟩ := I.ok.funs.mem hb
  exact absurd (Nat.lt_of_lt_of_le (Heap.lt_size ho) (Nat.le_trans I.sz h)) (Nat.lt_irrefl _)
theorem Inv.cne (I : Inv X pins σ H s) : ∀ x c, X.env.cells.lookup x = some c → c ≠ X.env.locals := fun x c e z => by
  obtain ⟨v, o, ho, hd⟩ := I.cell x c e
  obtain ⟨m, ⟨o', es, ep, ho', hd', _⟩, _⟩ := I.loc
  rw [z, ho'] at ho; cases ho; rw [hd'] at hd; cases hd
theorem Inv.funs (I : Inv X pins σ H s) : s.heap.FunFrames X.base X.outer := by
  have all : ∀ (l : List Env), (∀ b ∈ frs l, b ∈ X.fs) → X.s₀.heap.FunFrames X.base l → s.heap.FunFrames X.base l := by
    intro l
    induction l with
    | nil => intro _ _; trivial
    | cons env r ih =>
      intro hs hl
      obtain ⟨hk, ⟨L, o, hf, hn, ho, hd⟩, hr⟩ := hl
      have hL : L ∈ X.fs := hs L (by unfold frs; rw [List.filterMap_cons, hf]; exact List.mem_cons_self)
      obtain ⟨sl, e⟩ := I.base.slot L o ho (I.ok.frf L hL) hL fun z => I.ok.exfs L z hL
      exact ⟨hk, ⟨L, _, hf, hn, e, hd⟩, ih (fun b hb => hs b (by unfold frs; rw [List.filterMap_cons, hf]; exact List.mem_cons_of_mem _ hb)) hr⟩
  exact all X.outer (fun _ hb => hb) I.ok.funs

/-- the frames that run, for a call -/
theorem Inv.stack (I : Inv X pins σ H s) : s.heap.FunFrames X.base X.stack := by
  rcases I.ok.stk with e | ⟨e, hf⟩
  · rw [e]; exact I.funs
  · rw [e]
    obtain ⟨m, hn, _⟩ := I.loc
    refine .cons (by rw [I.ok.kind]; decide) hf hn ?_ I.funs
    exact Heap.get?_none_of_le (Nat.le_trans I.ok.bsz I.ok.above)
theorem Inv.stkSub (I : Inv X pins σ H s) : ∀ b ∈ frs X.stack, b ∈ X.env.locals :: X.fs := fun b hb => by
  rcases I.ok.stk with e | ⟨e, hf⟩
  · rw [e] at hb; exact List.mem_cons_of_mem _ hb
  · rw [e] at hb
    unfold frs at hb
    rw [List.filterMap_cons, hf] at hb
    exact hb
theorem Inv.stkFree (I : Inv X pins σ H s) : ∀ b ∈ frs X.stack, H b = none := fun b hb => by
  rcases List.mem_cons.mp (I.stkSub b hb) with e | hb
  · rw [e]; exact I.free
  · obtain ⟨_, o, ho, _⟩ := I.ok.funs.mem hb
    exact I.base.free b o ho (I.ok.frf b hb) fun z => I.ok.exfs b z hb

/-- THE STEP: the untracked objects but the frame and the records at ch are kept (the callers' frames up to slots), the frame's map is kept, the new abstract heap is held -/
theorem Inv.step {g' : Array GenState} {t' : Nat} {d' : Drawn} {ch : List Addr} (I : Inv X pins σ H s)
    (hch : ∀ b ∈ ch, (b ∈ X.ex ∨ X.s₀.heap.objs.size ≤ b) ∧ b ≠ X.env.locals ∧ (∀ x c, X.env.cells.lookup x = some c → c ≠ b) ∧ ∀ p ∈ X.pn ++ pins, p.1 ≠ b)
    (keep : ∀ b o, b ≠ X.env.locals → b ∉ X.fs → b ∉ ch → s.heap.get? b = some o → H b = none → h'.get? b = some o)
    (slot : ∀ b o, b ≠ X.env.locals → b ∈ X.fs → b ∉ ch → s.heap.get? b = some o → H b = none → ∃ sl, h'.get? b = some { o with slots := sl }) (free : ∀ b o, b ∉ ch → s.heap.get? b = some o → H b = none → H' b = none)
    (there : ∀ b o, b ∉ ch → s.heap.get? b = some o → ∃ o', h'.get? b = some o')
    (tups : ∀ b xs, H b = some (.tup xs) → H' b = some (.tup xs)) (frzs : ∀ b o u, H b = some (.frz o u) → H' b = some (.frz o u)) (tbls : ∀ b ps, H b = some (.tbl ps) → ∃ more, H' b = some (.tbl (ps ++ more)))
    (ns : ∀ m, s.heap.Ns X.env.locals m → h'.Ns X.env.locals m) (hok : HOk X.prog X.w H' h') (hg : AllBare g') :
    Inv X pins σ H' { s with heap := h', gens := g', drawn := d', toks := t' } := by
  have neL : ∀ b o, X.s₀.heap.get? b = some o → b ≠ X.env.locals := fun b o e => Nat.ne_of_lt (Nat.lt_of_lt_of_le (Heap.lt_size e) I.ok.above)
  have neC : ∀ b o, X.s₀.heap.get? b = some o → b ∉ X.ex → b ∉ ch := fun b o e hx hb => by
    rcases (hch b hb).1 with z | z
    · exact hx z
    · exact absurd (Nat.lt_of_lt_of_le (Heap.lt_size e) z) (Nat.lt_irrefl _)
  have cellK : ∀ x c, X.env.cells.lookup x = some c → ∀ v, s.heap.IsCell c v → h'.IsCell c v := fun x c e v ⟨o, ho, hd⟩ => by
    have nch : c ∉ ch := fun z => (hch c z).2.2.1 x c e rfl
    by_cases hc : c ∈ X.fs
    · obtain ⟨sl, q⟩ := slot c o (I.cne x c e) hc nch ho (I.freeC x c e)
      exact ⟨_, q, hd⟩
    · exact ⟨o, keep c o (I.cne x c e) hc nch ho (I.freeC x c e), hd⟩
  refine ⟨I.ok, I.os, hg, ⟨fun b o e n hb hx => ?_, fun b o e n hb hx => ?_, fun b o e n hx => ?_, fun b o e hx => ?_, fun b xs e => tups b xs (I.base.tups b xs e), fun b o xs e => frzs b o xs (I.base.frzs b o xs e), fun b ps e => ?_⟩, ?_, fun x c e => ?_, ?_, fun x c e => ?_, fun p hp => ?_, hok, I.len⟩
  · exact keep b o (neL b o e) hb (neC b o e hx) (I.base.keep b o e n hb hx) (I.base.free b o e n hx)
  · obtain ⟨sl, e1⟩ := I.base.slot b o e n hb hx
    obtain ⟨sl', e2⟩ := slot b _ (neL b o e) hb (neC b o e hx) e1 (I.base.free b o e n hx)
    exact ⟨sl', e2⟩
  · obtain ⟨o', e1⟩ := I.base.there b o e hx
    exact free b o' (neC b o e hx) e1 (I.base.free b o e n hx)
  · obtain ⟨o', e1⟩ := I.base.there b o e hx
    exact there b o' (neC b o e hx) e1
  · obtain ⟨m1, e1⟩ := I.base.tbls b ps e
    obtain ⟨m2, e2⟩ := tbls b _ e1
    exact ⟨m1 ++ m2, by rw [e2, Array.append_assoc]⟩
  · obtain ⟨m, hn, hl⟩ := I.loc
    refine ⟨m, ns m hn, fun i x v e1 e2 e3 => ?_⟩
    obtain ⟨u, r, l⟩ := hl i x v e1 e2 e3
    refine ⟨u, r, ?_⟩
    rcases l with l | ⟨k, c, e, z⟩
    · exact .inl l
    · exact .inr ⟨k, c, e, cellK x c e _ z⟩
  · obtain ⟨v, z⟩ := I.cell x c e
    exact ⟨v, cellK x c e v z⟩
  · obtain ⟨m, ⟨o, _, _, ho, _⟩, _⟩ := I.loc
    exact free _ o (fun z => (hch _ z).2.1 rfl) ho I.free
  · obtain ⟨v, o, ho, hd⟩ := I.cell x c e
    exact free c o (fun z => (hch c z).2.2.1 x c e rfl) ho (I.freeC x c e)
  · obtain ⟨e, n, ne, nf, d⟩ := I.pin p hp
    have nch : p.1 ∉ ch := fun z => (hch p.1 z).2.2.2 p hp rfl
    exact ⟨keep p.1 p.2 ne nf nch e n, free p.1 p.2 nch e n, ne, nf, d⟩
/-- .. where the frame's own object is kept too -/
theorem Inv.un {t' : Nat} (I : Inv X pins σ H s) (u : Un X.fs [] H H' s.heap h') (hok : HOk X.prog X.w H' h') : Inv X pins σ H' { s with heap := h', toks := t' } := by
  obtain ⟨m, ⟨o, es, ep, ho, r⟩, _⟩ := id I.loc
  obtain ⟨sl, hL⟩ := u.any ho I.free (by simp)
  exact I.step (g' := s.gens) (d' := s.drawn) (ch := []) (fun _ z => nomatch z) (fun b o _ hb _ e n => u.keep b o e n hb (by simp)) (fun b o _ hb _ e n => u.slot b o e n hb (by simp)) (fun b o _ e n => u.free b o e n (by simp)) (fun b o _ e => u.there b o e (by simp)) u.tups u.frzs u.tbls (fun m' hm => by
    obtain ⟨o', es', ep', ho', r'⟩ := hm
    rw [ho] at ho'; cases ho'
    exact ⟨_, es', ep', hL, r'⟩) hok I.bare
/-- behind a call (or a comprehension's block): the slots of this frame may have changed too, the records at ch may have turned -/
theorem Inv.call {g' : Array GenState} {t' : Nat} {d' : Drawn} {ch : List Addr} (I : Inv X pins σ H s) (u : Un (frs X.stack) ch H H' s.heap h') (hok : HOk X.prog X.w H' h') (hg : AllBare g')
    (hch : ∀ b ∈ ch, (b ∈ X.ex ∨ X.s₀.heap.objs.size ≤ b) ∧ b ≠ X.env.locals ∧ (∀ x c, X.env.cells.lookup x = some c → c ≠ b) ∧ ∀ p ∈ X.pn ++ pins, p.1 ≠ b) :
    Inv X pins σ H' { s with heap := h', gens := g', drawn := d', toks := t' } := by
  obtain ⟨m, ⟨o, es, ep, ho, r⟩, _⟩ := id I.loc
  obtain ⟨sl, hL⟩ := u.any ho I.free fun z => (hch _ z).2.1 rfl
  exact I.step (ch := ch) hch (fun b o hL hb hc e n => u.keep b o e n (fun z => (List.mem_cons.mp (I.stkSub b z)).elim hL hb) hc) (fun b o _ _ hc e n => u.any e n hc) (fun b o hc e n => u.free b o e n hc) (fun b o hc e => u.there b o e hc) u.tups u.frzs u.tbls (fun m' hm => by
    obtain ⟨o', es', ep', ho', r'⟩ := hm
    rw [ho] at ho'; cases ho'
    exact ⟨_, es', ep', hL, r'⟩) hok hg
/-- an untracked record of ours (an iterator) has turned -/
theorem Inv.turned {t' : Nat} {it : Addr} (I : Inv X pins σ H s) (k : ∀ b o, b ≠ it → s.heap.get? b = some o → h'.get? b = some o) (hn : H it = none) (hL : it ≠ X.env.locals)
    (h1 : it ∈ X.ex ∨ X.s₀.heap.objs.size ≤ it) (h2 : ∀ x c, X.env.cells.lookup x = some c → c ≠ it) (h3 : ∀ p ∈ X.pn ++ pins, p.1 ≠ it) : Inv X pins σ H { s with heap := h', toks := t' } := by
  have nit : ∀ b u, H b = some u → b ≠ it := fun b u e z => by rw [z, hn] at e; cases e
  refine I.step (g' := s.gens) (d' := s.drawn) (ch := [it]) (fun b hb => ?_) (fun b o _ _ hc e _ => k b o (fun z => hc (by simp [z])) e) (fun b o _ _ hc e _ => ⟨o.slots, k b o (fun z => hc (by simp [z])) e⟩) (fun _ _ _ _ n => n)
    (fun b o hc e => ⟨o, k b o (fun z => hc (by simp [z])) e⟩) (fun _ _ e => e) (fun _ _ _ e => e) (fun b ps e => ⟨#[], by rw [e]; simp⟩) (fun m hm => ?_) (fun b u e => ?_) I.bare
  · have e : b = it := by simpa using hb
    subst e
    exact ⟨h1, hL, h2, h3⟩
  · obtain ⟨o, es, ep, ho, r⟩ := hm
    exact ⟨o, es, ep, k _ o (Ne.symm hL) ho, r⟩
  · refine (I.hok b u e).stay (fun c v hc q => k c v ?_ q) (fun _ q => q) fun _ _ q => q
    rcases hc with z | z
    · rw [z]; exact nit b u e
    · exact nit c _ z
theorem Inv.tok (I : Inv X pins σ H s) (t : Nat) : Inv X pins σ H { s with toks := t } := I.un (h' := s.heap) (t' := t) Un.refl I.hok
/-- all objects kept -/
theorem Inv.kept {t' : Nat} (I : Inv X pins σ H s) (k : ∀ b u, s.heap.get? b = some u → h'.get? b = some u) : Inv X pins σ H { s with heap := h', toks := t' } := I.un (Un.kept k) (I.hok.kept k)
/-- a new object laid and tracked -/
theorem Inv.laid {a : Addr} {o : HO} {t' : Nat} (I : Inv X pins σ H s) (k : ∀ b u, s.heap.get? b = some u → h'.get? b = some u) (hp : s.heap.objs.size ≤ a) (new : ObjOk X.prog X.w (upd H a o) h' a o) :
    Inv X pins σ (upd H a o) { s with heap := h', toks := t' } := I.un (Un.laid k hp (I.hok.fresh hp)) (I.hok.laid k hp new)
/-- an object written -/
theorem Inv.write {x e : Addr} {o : HO} {t' : Nat} (I : Inv X pins σ H s) (mu : Mut (H x)) (he : e = x ∨ H e = some (.own x)) (k : ∀ b u, b ≠ e → s.heap.get? b = some u → h'.get? b = some u) (heo : ∃ u, h'.get? e = some u)
    (new : ObjOk X.prog X.w (upd H x o) h' x o) : Inv X pins σ (upd H x o) { s with heap := h', toks := t' } := I.un (Un.write mu he k heo) (I.hok.write mu he k heo new)
theorem Inv.pins_of {pins' : List (Addr × Obj)} (I : Inv X pins σ H s) (h : ∀ p ∈ pins', s.heap.get? p.1 = some p.2 ∧ H p.1 = none ∧ p.1 ≠ X.env.locals ∧ p.1 ∉ X.fs ∧ ∀ v, p.2.data ≠ .cell v) : Inv X pins' σ H s :=
  ⟨I.ok, I.os, I.bare, I.base, I.loc, I.cell, I.free, I.freeC, fun p hp => (List.mem_append.mp hp).elim (fun z => I.pin p (List.mem_append_left _ z)) (h p), I.hok, I.len⟩

theorem nodup_ix {N : List Str} (hN : N.Nodup) {i j : Nat} {x : Str} (a : N[i]? = some x) (b : N[j]? = some x) : i = j := by
  obtain ⟨h1, e1⟩ := List.getElem?_eq_some_iff.mp a
  obtain ⟨h2, e2⟩ := List.getElem?_eq_some_iff.mp b
  exact (List.getElem_inj hN).mp (e1.trans e2.symm)

/-- a name is stored; what changed -/
theorem store_ok2 {M : Model} {A : Around} {E : Value → Shared → Prop} {i : Nat} {x : Str} {v : V} {u : Value} {Q : Unit → Shared → Prop} (I : Inv X pins σ H s) (hN : X.N.Nodup) (hi : X.N[i]? = some x) (hx : Loc X.env.scope x) (r : RelV v u)
    (h : ∀ s', Inv X pins (σ.set i (some v)) H s' → (∃ a, Heap.SameBut a s.heap s'.heap ∧ (a = X.env.locals ∨ X.env.cells.lookup x = some a)) → Q () s') (hf : X.fn x = true ∨ X.env.scope.names.lookup x = some .local := by first | exact .inl rfl | exact .inr rfl | assumption) : wpAny M A (storeName X.env x u) Q E s := by
  obtain ⟨m, hn, hl⟩ := id I.loc
  have hcls : (X.env.scope.kind == .class || (X.env.scope.kind == .module && X.env.locals != X.env.globals)) = false := by rw [I.ok.kind]; rfl
  have hiσ : i < σ.length := by rw [I.len]; exact (List.getElem?_eq_some_iff.mp hi).1
  have cne := I.cne
  have tracked : ∀ {a : Addr} {h' : Heap}, (∃ o, s.heap.get? a = some o ∧ H a = none) → Heap.SameBut a s.heap h' → HOk X.prog X.w H h' := fun {a h'} ha hs b ob e => by
    obtain ⟨_, _, hfree⟩ := ha
    refine (I.hok b ob e).stay (fun c w' hc q => (hs.2 c ?_).trans q) (fun _ q => q) fun _ _ q => q
    rintro rfl
    rcases hc with rfl | hc
    · rw [hfree] at e; cases e
    · rw [hfree] at hc; cases hc
  rcases hx with hk | hk
  · refine wpAny_storeName_local hk hn (fun h' hn' hs => ?_) hcls
    obtain ⟨oL, _, _, hoL, _⟩ := id hn
    refine h _ ⟨I.ok, I.os, I.bare, ⟨fun b o e n hb hx => ?_, fun b o e n hb hx => ?_, I.base.free, fun b o e hx => ?_, I.base.tups, I.base.frzs, I.base.tbls⟩, ⟨_, hn', fun j y v' e1 e2 e3 => ?_⟩, fun y c e => ?_, I.free, I.freeC, fun p hp => ?_, tracked ⟨oL, hoL, I.free⟩ hs, by simpa using I.len⟩ ⟨_, hs, .inl rfl⟩
    · exact (hs.2 b (Nat.ne_of_lt (Nat.lt_of_lt_of_le (Heap.lt_size e) I.ok.above))).trans (I.base.keep b o e n hb hx)
    · obtain ⟨sl, e1⟩ := I.base.slot b o e n hb hx
      exact ⟨sl, (hs.2 b (Nat.ne_of_lt (Nat.lt_of_lt_of_le (Heap.lt_size e) I.ok.above))).trans e1⟩
    · obtain ⟨o', e1⟩ := I.base.there b o e hx
      exact ⟨o', (hs.2 b (Nat.ne_of_lt (Nat.lt_of_lt_of_le (Heap.lt_size e) I.ok.above))).trans e1⟩
    · by_cases hj : j = i
      · subst hj
        rw [hi] at e1; cases e1
        rw [List.getElem?_set_self hiσ] at e2
        cases e2
        exact ⟨u, r, .inl ⟨hk, by simp⟩⟩
      · rw [List.getElem?_set_ne (Ne.symm hj)] at e2
        obtain ⟨u', r', q⟩ := hl j y v' e1 e2 e3
        refine ⟨u', r', ?_⟩
        rcases q with ⟨k, e⟩ | ⟨k, c, e, z⟩
        · refine .inl ⟨k, ?_⟩
          have : y ≠ x := fun e => hj (nodup_ix hN e1 (e ▸ hi))
          simp [this, e]
        · exact .inr ⟨k, c, e, z.sameBut hs (cne y c e)⟩
    · obtain ⟨w', z⟩ := I.cell y c e
      exact ⟨w', z.sameBut hs (cne y c e)⟩
    · obtain ⟨e, n, ne, nf, d⟩ := I.pin p hp
      exact ⟨(hs.2 p.1 ne).trans e, n, ne, nf, d⟩
  · have hfn : X.fn x = true := by
      rcases hf with z | z
      · exact z
      · rw [z] at hk; cases hk
    obtain ⟨c, hc⟩ := I.ok.has x (.inl hk)
    obtain ⟨w', z⟩ := I.cell x c hc
    refine wpAny_storeName_cell I.ok.kind hk hc z (fun h' hc' hs => ?_)
    obtain ⟨oc, hoc, hocd⟩ := id z
    refine h { s with heap := h' } ⟨I.ok, I.os, I.bare, ⟨fun b o e n hb hx => ?_, fun b o e n hb hx => ?_, I.base.free, fun b o e hx => ?_, I.base.tups, I.base.frzs, I.base.tbls⟩, ⟨m, hn.sameBut hs (Ne.symm (cne x c hc)), fun j y v' e1 e2 e3 => ?_⟩, fun y c' e => ?_, I.free, I.freeC, fun p hp => ?_, tracked ⟨oc, hoc, I.freeC x c hc⟩ hs, by simpa using I.len⟩ ⟨c, hs, .inr hc⟩
    · exact (hs.2 b (Nat.ne_of_lt (Nat.lt_of_lt_of_le (Heap.lt_size e) (I.ok.cab x c hfn hc)))).trans (I.base.keep b o e n hb hx)
    · obtain ⟨sl, e1⟩ := I.base.slot b o e n hb hx
      exact ⟨sl, (hs.2 b (Nat.ne_of_lt (Nat.lt_of_lt_of_le (Heap.lt_size e) (I.ok.cab x c hfn hc)))).trans e1⟩
    · obtain ⟨o', e1⟩ := I.base.there b o e hx
      exact ⟨o', (hs.2 b (Nat.ne_of_lt (Nat.lt_of_lt_of_le (Heap.lt_size e) (I.ok.cab x c hfn hc)))).trans e1⟩
    · by_cases hj : j = i
      · subst hj
        rw [hi] at e1; cases e1
        rw [List.getElem?_set_self hiσ] at e2
        cases e2
        exact ⟨u, r, .inr ⟨.inl hk, c, hc, hc'⟩⟩
      · rw [List.getElem?_set_ne (Ne.symm hj)] at e2
        obtain ⟨u', r', q⟩ := hl j y v' e1 e2 e3
        refine ⟨u', r', ?_⟩
        rcases q with q | ⟨k, c', e, z'⟩
        · exact .inl q
        · refine .inr ⟨k, c', e, z'.sameBut hs ?_⟩
          rintro rfl
          exact hj (nodup_ix hN e1 (I.ok.inj _ _ _ e hc ▸ hi))
    · by_cases hcc : c' = c
      · subst hcc; exact ⟨_, hc'⟩
      · obtain ⟨w2, z2⟩ := I.cell y c' e
        exact ⟨w2, z2.sameBut hs hcc⟩
    · obtain ⟨e, n, ne, nf, d⟩ := I.pin p hp
      refine ⟨(hs.2 p.1 ?_).trans e, n, ne, nf, d⟩
      intro q
      rw [q, hoc] at e
      have q' : oc = p.2 := Option.some.inj e
      exact d w' (by rw [← q']; exact hocd)
theorem store_ok {M : Model} {A : Around} {E : Value → Shared → Prop} {i : Nat} {x : Str} {v : V} {u : Value} {Q : Unit → Shared → Prop} (I : Inv X pins σ H s) (hN : X.N.Nodup) (hi : X.N[i]? = some x) (hx : Loc X.env.scope x) (r : RelV v u)
    (h : ∀ s', Inv X pins (σ.set i (some v)) H s' → Q () s') (hf : X.fn x = true ∨ X.env.scope.names.lookup x = some .local := by first | exact .inl rfl | exact .inr rfl | assumption) : wpAny M A (storeName X.env x u) Q E s :=
  store_ok2 I hN hi hx r (fun s' I' _ => h s' I') hf
/-- behind a call or a block, the state as it is -/
theorem Inv.call' {s' : Shared} {ch : List Addr} (I : Inv X pins σ H s) (ho : s'.os = s.os) (u : Un (frs X.stack) ch H H' s.heap s'.heap) (hok : HOk X.prog X.w H' s'.heap) (hg : AllBare s'.gens)
    (hch : ∀ b ∈ ch, (b ∈ X.ex ∨ X.s₀.heap.objs.size ≤ b) ∧ b ≠ X.env.locals ∧ (∀ x c, X.env.cells.lookup x = some c → c ≠ b) ∧ ∀ p ∈ X.pn ++ pins, p.1 ≠ b) : Inv X pins σ H' s' := by
  obtain ⟨h', g', d', t', o'⟩ := s'
  have e : o' = s.os := ho
  subst e
  exact I.call (g' := g') (t' := t') (d' := d') u hok hg hch
end

/-! ### the judgements -/
/-- an exception: its class, its own dict's address (where it has one), the abstract heap behind it -/
abbrev XK := Value → Option Addr → Hp → Prop
abbrev St := List (Option V)
abbrev VK := V → Hp → Prop
/-- an expression's reading; a test's; an argument list's -/
abbrev TE := St → Hp → VK → Prop
abbrev TT := St → Hp → (Bool → Hp → Prop) → Prop
abbrev TA := St → Hp → (List V → Hp → Prop) → Prop
/-- what is wanted behind a statement -/
structure Ends where
  nx : St → Hp → Prop
  rt : VK
  bk : St → Hp → Prop := fun _ _ => False
  ct : St → Hp → Prop := fun _ _ => False
abbrev TS := Ends → St → Hp → Prop

def EP (X : Cx) (pins : List (Addr × Obj)) (σ : St) (Q : VK) (u : Value) (s' : Shared) : Prop := ∃ v H', Inv X pins σ H' s' ∧ RelV v u ∧ Q v H'
def TP (X : Cx) (pins : List (Addr × Obj)) (σ : St) (Q : Bool → Hp → Prop) (b : Bool) (s' : Shared) : Prop := ∃ H', Inv X pins σ H' s' ∧ Q b H'
def AP (X : Cx) (pins : List (Addr × Obj)) (σ : St) (Q : List V → Hp → Prop) (us : List Value) (s' : Shared) : Prop := ∃ vs H', Inv X pins σ H' s' ∧ Vals vs us ∧ Q vs H'
def SP (X : Cx) (pins : List (Addr × Obj)) (D : Ends) (f : Flow) (s' : Shared) : Prop :=
  match f with
  | .next => ∃ σ' H', Inv X pins σ' H' s' ∧ D.nx σ' H'
  | .brk => ∃ σ' H', Inv X pins σ' H' s' ∧ D.bk σ' H'
  | .cont => ∃ σ' H', Inv X pins σ' H' s' ∧ D.ct σ' H'
  | .ret u => ∃ v σ' H', Inv X pins σ' H' s' ∧ RelV v u ∧ D.rt v H'

def PE (X : Cx) (e : Expr) (t : TE) : Prop :=
  ∀ (pins : List (Addr × Obj)) (s : Shared) (σ : St) (H : Hp) (Q : VK), Inv X pins σ H s → t σ H Q → wpAny (model X.prog X.w) X.A (eval e X.env) (EP X pins σ Q) X.xe s
def PT (X : Cx) (e : Expr) (t : TT) : Prop :=
  ∀ (pins : List (Addr × Obj)) (s : Shared) (σ : St) (H : Hp) (Q : Bool → Hp → Prop), Inv X pins σ H s → t σ H Q → wpAny (model X.prog X.w) X.A (isTrue e X.env (eval e X.env)) (TP X pins σ Q) X.xe s
/-- a test whatever its 'whole' is (and, or) -/
def PW (X : Cx) (e : Expr) (t : TT) : Prop :=
  ∀ (whole : Sem Value) (pins : List (Addr × Obj)) (s : Shared) (σ : St) (H : Hp) (Q : Bool → Hp → Prop), Inv X pins σ H s → t σ H Q → wpAny (model X.prog X.w) X.A (isTrue e X.env whole) (TP X pins σ Q) X.xe s
theorem PW.pt {X : Cx} {e : Expr} {t : TT} (h : PW X e t) : PT X e t := h _
/-- an argument list (no star), from the left -/
def PA (X : Cx) (es : List Expr) (t : TA) : Prop :=
  ∀ (pos : Pos) (pins : List (Addr × Obj)) (s : Shared) (σ : St) (H : Hp) (Q : List V → Hp → Prop), Inv X pins σ H s → t σ H Q → wpAny (model X.prog X.w) X.A (spliced (backTo pos (starEach es X.env))) (AP X pins σ Q) X.xe s
def PS (X : Cx) (st : Stmt) (t : TS) : Prop :=
  ∀ (pins : List (Addr × Obj)) (s : Shared) (σ : St) (H : Hp) (D : Ends), Inv X pins σ H s → t D σ H → wpAny (model X.prog X.w) X.A (exec st X.env) (SP X pins D) X.xe s
def PSs (X : Cx) (st : List Stmt) (t : TS) : Prop :=
  ∀ (pins : List (Addr × Obj)) (s : Shared) (σ : St) (H : Hp) (D : Ends), Inv X pins σ H s → t D σ H → wpAny (model X.prog X.w) X.A (execs st X.env) (SP X pins D) X.xe s
/-- weaken the end -/
theorem thn {α : Type} {t : Sem α} {Q Q' : α → Shared → Prop} {M : Model} {A : Around} {E : Value → Shared → Prop} {s : Shared} (h : wpAny M A t Q E s) (hQ : ∀ a s, Q a s → Q' a s) : wpAny M A t Q' E s := wpAny_mono h hQ fun _ _ x => x
end L2

namespace L2
open PySem PySem.Spec PyProof.Rows
section
variable {X : Cx}

/-! ### names and constants -/
def tVar (i : Nat) : TE := fun σ H Q => ∃ v, σ[i]? = some (some v) ∧ Q v H
def tC (v : V) : TE := fun _ H Q => Q v H
theorem pe_var {i : Nat} {x : Str} {pos : Pos} (hN : X.N[i]? = some x) (hv : Vis X.env.scope x) (hd : (x == ("__debug__" : Str)) = false := by decide) (hcd : (x == ("__classdict__" : Str)) = false := by decide) : PE X (.Name x pos) (tVar i) := by
  intro pins s σ H Q I h
  obtain ⟨v, e, h⟩ := h
  obtain ⟨m, hn, hl⟩ := I.loc
  obtain ⟨u, r, l⟩ := hl i x v hN e hv
  have fin : EP X pins σ Q u s := ⟨v, H, I, r, h⟩
  rcases l with ⟨hk, hm⟩ | ⟨hk, c, hc, hcell⟩
  · exact wpAny_Name (wpAny_loadName_local I.ok.kind hk hn hm fin) hd
  · rcases hk with hk | hk
    · exact wpAny_Name (wpAny_loadName_cell I.ok.kind hk hc hcell fin) hd
    · exact wpAny_Name (wpAny_loadName_free I.ok.kind hk hc hcell fin hcd) hd
theorem pe_int {i j pos} : PE X (.Constant (.int i) j pos) (tC (.int i)) := fun _ _ _ H _ I h => wpAny_Constant_int ⟨.int i, H, I.tok _, ⟨_, rfl⟩, h⟩
theorem pe_bl {b j pos} : PE X (.Constant (.bool b) j pos) (tC (.bl b)) := fun _ _ _ H _ I h => Constant_bool ⟨.bl b, H, I, rfl, h⟩
theorem pe_non {j pos} : PE X (.Constant .none j pos) (tC .non) := fun _ _ _ H _ I h => Constant_none ⟨.non, H, I, rfl, h⟩
theorem pe_str {x j pos} : PE X (.Constant (.str x) j pos) (tC (.str x)) := fun _ _ _ H _ I h => Calls.Constant_str ⟨.str x, H, I.tok _, ⟨_, rfl⟩, h⟩

/-- a global name of the def -/
def Gl (X : Cx) (x : Str) : Prop := X.env.kindOf x = some .globalImplicit
theorem ld_glob {E : Value → Shared → Prop} {pins : List (Addr × Obj)} {s : Shared} {σ : St} {H : Hp} {x : Str} {u : Value} {pos : Pos} {Q : Value → Shared → Prop} (I : Inv X pins σ H s) (hg : Gl X x) (hm : X.mg x = some u) (h : Q u s)
    (hd : (x == ("__debug__" : Str)) = false := by decide) : wpAny (model X.prog X.w) X.A (eval (.Name x pos) X.env) Q E s :=
  Calls.Name_function_global I.ok.kind hg (Calls.loadGlobal_global (by rw [I.ok.glob]; exact I.mod.glob.keeps I.bk) hm h) hd
theorem ld_blt {E : Value → Shared → Prop} {pins : List (Addr × Obj)} {s : Shared} {σ : St} {H : Hp} {x : Str} {u : Value} {pos : Pos} {Q : Value → Shared → Prop} (I : Inv X pins σ H s) (hg : Gl X x) (hm : X.mg x = none) (hv : bootBuiltins x = some u) (h : Q u s)
    (hn : x ≠ "__name__" := by decide) (hd : (x == ("__debug__" : Str)) = false := by decide) : wpAny (model X.prog X.w) X.A (eval (.Name x pos) X.env) Q E s := by
  obtain ⟨mb, h1, h2⟩ := I.mod.blt
  exact Calls.Name_function_global I.ok.kind hg (Calls.loadGlobal_builtin (by rw [I.ok.glob]; exact I.mod.glob.keeps I.bk) hm (by rw [I.ok.blt]; exact h1.keeps I.bk) ((h2 x hn).trans hv) h) hd
/-- a module's constant, a class, a function, as a value -/
theorem pe_glob {x : Str} {v : V} {u : Value} {pos : Pos} (hg : Gl X x) (hm : X.mg x = some u) (r : RelV v u) (hd : (x == ("__debug__" : Str)) = false := by decide) : PE X (.Name x pos) (tC v) :=
  fun _ _ _ H _ I h => ld_glob I hg hm ⟨v, H, I, r, h⟩ hd
theorem pe_bltn {x : Str} {v : V} {u : Value} {pos : Pos} (hg : Gl X x) (hm : X.mg x = none) (hv : bootBuiltins x = some u) (r : RelV v u) (hn : x ≠ "__name__" := by decide) (hd : (x == ("__debug__" : Str)) = false := by decide) : PE X (.Name x pos) (tC v) :=
  fun _ _ _ H _ I h => ld_blt I hg hm hv ⟨v, H, I, r, h⟩ hn hd

variable {a b : Expr} {ta tb : TE} {pos : Pos}
/-- a comparison as a value, as a test -/
def tB (t : TE) : TT := fun σ H Q => t σ H fun x H1 => ∃ c, x = .bl c ∧ Q c H1
/-- an expression whose value is a bool, as a test -/
theorem pt_val {e : Expr} {t : TE} (h : PE X e t) (he : ∀ whole, isTrue e X.env whole = (do let v ← whole; standAt e.pos; holding [v] (truthy v)) := by intro _; rfl) : PT X e (tB t) := by
  intro pins s σ H Q I hw
  refine isTrue_plain (thn (h pins s σ H _ I hw) fun v s1 ⟨x, H1, I1, r1, q1⟩ => ?_) (he _)
  obtain ⟨d, rfl, q⟩ := q1
  cases r1
  exact wpAny_truthy_bool ⟨H1, I1, q⟩

/-! ### and, or, not -/
variable {tA tB' : TT} {rest : List Expr}
def tAnd (t u : TT) : TT := fun σ H Q => t σ H fun c H1 => if c = true then u σ H1 Q else Q false H1
def tOr (t u : TT) : TT := fun σ H Q => t σ H fun c H1 => if c = true then Q true H1 else u σ H1 Q
def tNot (t : TT) : TT := fun σ H Q => t σ H fun c H1 => Q (!c) H1
theorem pw_and1 (ha : PT X a tA) : PW X (.BoolOp .And [a] pos) tA := by
  intro wh pins s σ H Q I h
  refine isTrue_and (thn (ha pins s σ H Q I h) fun c s1 e => ?_)
  cases c with
  | true => exact isTrue_and_nil e
  | false => exact e
theorem pw_or1 (ha : PT X a tA) : PW X (.BoolOp .Or [a] pos) tA := by
  intro wh pins s σ H Q I h
  refine isTrue_or (thn (ha pins s σ H Q I h) fun c s1 e => ?_)
  cases c with
  | false => exact isTrue_or_nil e
  | true => exact e
theorem pw_and (ha : PT X a tA) (hb : PW X (.BoolOp .And (b :: rest) pos) tB') : PW X (.BoolOp .And (a :: b :: rest) pos) (tAnd tA tB') := by
  intro wh pins s σ H Q I h
  refine isTrue_and (thn (ha pins s σ H _ I h) fun c s1 ⟨H1, I1, q1⟩ => ?_)
  cases c with
  | true => exact hb wh pins s1 σ H1 Q I1 q1
  | false => exact ⟨H1, I1, q1⟩
theorem pw_or (ha : PT X a tA) (hb : PW X (.BoolOp .Or (b :: rest) pos) tB') : PW X (.BoolOp .Or (a :: b :: rest) pos) (tOr tA tB') := by
  intro wh pins s σ H Q I h
  refine isTrue_or (thn (ha pins s σ H _ I h) fun c s1 ⟨H1, I1, q1⟩ => ?_)
  cases c with
  | true => exact ⟨H1, I1, q1⟩
  | false => exact hb wh pins s1 σ H1 Q I1 q1
theorem pt_not (ha : PT X a tA) : PT X (.UnaryOp .Not a pos) (tNot tA) := by
  intro pins s σ H Q I h
  exact isTrue_not (ha pins s σ H (fun c H1 => Q (!c) H1) I h)
/-- .. as values (bools) -/
def tAndV (ta tb : TE) : TE := fun σ H Q => ta σ H fun x H1 => ∃ c, x = .bl c ∧ if c = true then tb σ H1 Q else Q (.bl false) H1
def tNotV (ta : TE) : TE := fun σ H Q => ta σ H fun x H1 => ∃ c, x = .bl c ∧ Q (.bl (!c)) H1
theorem pe_one {op} {t : TE} (h : PE X a t) : PE X (.BoolOp op [a] pos) t := fun pins s σ H Q I hw => BoolOp_one (h pins s σ H Q I hw)
theorem pe_and (ha : PE X a ta) (hb : PE X (.BoolOp .And (b :: rest) pos) tb) : PE X (.BoolOp .And (a :: b :: rest) pos) (tAndV ta tb) := by
  intro pins s σ H Q I h
  refine BoolOp_and (thn (ha pins s σ H _ I h) fun v s1 ⟨x, H1, I1, r1, q1⟩ => ?_)
  obtain ⟨c, rfl, q1⟩ := q1
  cases r1
  refine wpAny_truthy_bool ?_
  cases c with
  | true => exact hb pins s1 σ H1 Q I1 q1
  | false => exact ⟨.bl false, H1, I1, rfl, q1⟩
theorem pe_not (ha : PE X a ta) : PE X (.UnaryOp .Not a pos) (tNotV ta) := by
  intro pins s σ H Q I h
  refine UnaryOp_ (thn (ha pins s σ H _ I h) fun v s1 ⟨x, H1, I1, r1, q1⟩ => ?_)
  obtain ⟨c, rfl, q1⟩ := q1
  cases r1
  exact not_of (wpAny_truthy_bool ⟨.bl (!c), H1, I1, rfl, q1⟩)
/-- a if t else b -/
def tIf (t : TT) (ta tb : TE) : TE := fun σ H Q => t σ H fun c H1 => if c = true then ta σ H1 Q else tb σ H1 Q
theorem pe_ifExp {c : Expr} (hc : PT X c tA) (ha : PE X a ta) (hb : PE X b tb) : PE X (.IfExp c a b pos) (tIf tA ta tb) := by
  intro pins s σ H Q I h
  refine wpAny_IfExp (thn (hc pins s σ H _ I h) fun d s1 ⟨H1, I1, q1⟩ => ?_)
  cases d with
  | true => exact ha pins s1 σ H1 Q I1 q1
  | false => exact hb pins s1 σ H1 Q I1 q1
end
end L2

namespace L2
open PySem PySem.Spec PyProof.Rows

/-! ### a list, a tuple that is read: tracked, frozen, or an object of the module -/
def SqL (K : PySem.W.Frag) (H : Hp) (a : Addr) (xs : List V) : Prop :=
  Rd H a (.lst xs) ∨
    ∃ (o : Obj) (its : Array Value) (n : Nat), K.lookup a = some o ∧ o.cls = .type "list" ∧ o.dict = none ∧ o.data = .seq its n ∧ its.size ≤ sizeLine ∧ Vals xs its.toList
def SqT (K : PySem.W.Frag) (H : Hp) (a : Addr) (xs : List V) : Prop :=
  Rd H a (.tup xs) ∨
    ∃ (o : Obj) (its : Array Value) (n : Nat), K.lookup a = some o ∧ o.cls = .type "tuple" ∧ o.data = .seq its n ∧ its.size ≤ sizeLine ∧ Vals xs its.toList
def absV : Value → Option V
  | .none => some .non
  | .bool b => some (.bl b)
  | .int i _ => some (.int i)
  | .str x _ => some (.str x)
  | .bytes b _ => some (.byt b)
  | .float b _ => some (.flt b)
  | .ref a => some (.ref a)
  | .type n => some (.ty n)
  | _ => none
theorem RelV.abs {x : V} {u : Value} (r : RelV x u) : absV u = some x := by
  cases x with
  | non => cases r; rfl
  | bl _ => cases r; rfl
  | int _ => obtain ⟨t, rfl⟩ := r; rfl
  | str _ => obtain ⟨t, rfl⟩ := r; rfl
  | byt _ => obtain ⟨t, rfl⟩ := r; rfl
  | flt _ => obtain ⟨t, rfl⟩ := r; rfl
  | ref _ => cases r; rfl
  | ty _ => cases r; rfl
theorem RelV.inj {x y : V} {u : Value} (r : RelV x u) (q : RelV y u) : x = y := Option.some.inj (r.abs.symm.trans q.abs)
theorem Vals.inj : ∀ {xs ys : List V} {us : List Value}, Vals xs us → Vals ys us → xs = ys
  | _, _, _, .nil, .nil => rfl
  | _, _, _, .cons r t, .cons r' t' => by rw [r.inj r', Vals.inj t t']
section
variable {X : Cx} {pins : List (Addr × Obj)} {σ : St} {H : Hp} {s : Shared} {a : Addr} {xs ys : List V}
theorem SqL.of {K : PySem.W.Frag} (h : H a = some (.lst xs)) : SqL K H a xs := .inl (.inl h)
theorem SqT.of {K : PySem.W.Frag} (h : H a = some (.tup xs)) : SqT K H a xs := .inl (.inl h)
theorem Inv.list (I : Inv X pins σ H s) (h : SqL X.K H a xs) : ∃ its : List Value, Vals xs its ∧ PlainL s.heap a its.toArray ∧ xs.length ≤ sizeLine := by
  rcases h with h | ⟨o, its, n, hk, hc, hd, hs, hz, r⟩
  · obtain ⟨z, its, n, r, e⟩ := h.ok I.hok
    exact ⟨its, r, ⟨_, n, e, rfl, rfl, rfl⟩, z⟩
  · refine ⟨its.toList, r, ⟨o, n, I.kIn a o hk, hc, hd, by simpa using hs⟩, ?_⟩
    have e := r.length
    simp only [Array.length_toList] at e
    omega
theorem Inv.tuple (I : Inv X pins σ H s) (h : SqT X.K H a xs) : ∃ its : List Value, Vals xs its ∧ IsTup s.heap a its.toArray ∧ xs.length ≤ sizeLine := by
  rcases h with h | ⟨o, its, n, hk, hc, hs, hz, r⟩
  · obtain ⟨z, its, r, p⟩ := h.ok I.hok
    exact ⟨its, r, p, z⟩
  · refine ⟨its.toList, r, ⟨o, I.kIn a o hk, hc, n, by simpa using hs⟩, ?_⟩
    have e := r.length
    simp only [Array.length_toList] at e
    omega
theorem Inv.list_inj (I : Inv X pins σ H s) (h : SqL X.K H a xs) (h' : SqL X.K H a ys) : xs = ys := by
  obtain ⟨its, r, ⟨o, n, e, _, _, d⟩, _⟩ := I.list h
  obtain ⟨its', r', ⟨o', n', e', _, _, d'⟩, _⟩ := I.list h'
  rw [e] at e'; cases e'
  rw [d] at d'
  injection d' with d1 _
  have : its = its' := by simpa using congrArg Array.toList d1
  subst this
  exact r.inj r'
theorem Inv.tuple_inj (I : Inv X pins σ H s) (h : SqT X.K H a xs) (h' : SqT X.K H a ys) : xs = ys := by
  obtain ⟨its, r, ⟨o, e, _, n, d⟩, _⟩ := I.tuple h
  obtain ⟨its', r', ⟨o', e', _, n', d'⟩, _⟩ := I.tuple h'
  rw [e] at e'; cases e'
  rw [d] at d'
  injection d' with d1 _
  have : its = its' := by simpa using congrArg Array.toList d1
  subst this
  exact r.inj r'
end

/-! ### another wish about exceptions -/
abbrev Cx.wish (X : Cx) (E : Value → Shared → Prop) : Cx := { X with xe := E }
/-- no exception leaves -/
abbrev Cx.nox (X : Cx) : Cx := X.wish fun _ _ => False
theorem Cx.Ok.wish {X : Cx} (ok : X.Ok) (E : Value → Shared → Prop) : (X.wish E).Ok :=
  ⟨ok.mod, ok.kind, ok.glob, ok.blt, ok.above, ok.inj, ok.has, ok.cab, ok.hd, ok.frames, ok.stk, ok.exf, ok.bs, ok.bsz, ok.noex, ok.exfs, ok.funs, ok.frf⟩
theorem Cx.Ok.unwish {X : Cx} {E : Value → Shared → Prop} (ok : (X.wish E).Ok) : X.Ok :=
  ⟨ok.mod, ok.kind, ok.glob, ok.blt, ok.above, ok.inj, ok.has, ok.cab, ok.hd, ok.frames, ok.stk, ok.exf, ok.bs, ok.bsz, ok.noex, ok.exfs, ok.funs, ok.frf⟩
section
variable {X : Cx} {pins : List (Addr × Obj)} {σ : St} {H : Hp} {s : Shared} {E : Value → Shared → Prop}
theorem Inv.wish (I : Inv X pins σ H s) (E : Value → Shared → Prop) : Inv (X.wish E) pins σ H s := ⟨I.ok.wish E, I.os, I.bare, I.base, I.loc, I.cell, I.free, I.freeC, I.pin, I.hok, I.len⟩
theorem Inv.unwish (I : Inv (X.wish E) pins σ H s) : Inv X pins σ H s := ⟨I.ok.unwish, I.os, I.bare, I.base, I.loc, I.cell, I.free, I.freeC, I.pin, I.hok, I.len⟩
theorem SP.unwish {D : Ends} {f : Flow} {s' : Shared} (h : SP (X.wish E) pins D f s') : SP X pins D f s' := by
  cases f with
  | next => obtain ⟨σ', H', I, q⟩ := h; exact ⟨σ', H', I.unwish, q⟩
  | brk => obtain ⟨σ', H', I, q⟩ := h; exact ⟨σ', H', I.unwish, q⟩
  | cont => obtain ⟨σ', H', I, q⟩ := h; exact ⟨σ', H', I.unwish, q⟩
  | ret u => obtain ⟨v, σ', H', I, r, q⟩ := h; exact ⟨v, σ', H', I.unwish, r, q⟩
theorem PE.nox {e : Expr} {t : TE} (h : PE X.nox e t) : PE X e t := fun pins s σ H Q I hw =>
  wpAny_mono (h pins s σ H Q (I.wish _) hw) (fun _ _ ⟨v, H', I', r, q⟩ => ⟨v, H', I'.unwish, r, q⟩) fun _ _ z => False.elim z
theorem PT.nox {e : Expr} {t : TT} (h : PT X.nox e t) : PT X e t := fun pins s σ H Q I hw =>
  wpAny_mono (h pins s σ H Q (I.wish _) hw) (fun _ _ ⟨H', I', q⟩ => ⟨H', I'.unwish, q⟩) fun _ _ z => False.elim z
theorem PSs.nox {st : List Stmt} {t : TS} (h : PSs X.nox st t) : PSs X st t := fun pins s σ H D I hw =>
  wpAny_mono (h pins s σ H D (I.wish _) hw) (fun _ _ q => q.unwish) fun _ _ z => False.elim z
end

/-! ### blocks and small statements -/
section
variable {X : Cx} {st : Stmt} {rest : List Stmt} {t u : TS} {e : Expr} {te : TE} {pos : Pos}
def tNext : TS := fun D σ H => D.nx σ H
def tSeq (t u : TS) : TS := fun D σ H => t { D with nx := u D } σ H
theorem pss_nil : PSs X [] tNext := fun _ _ σ H _ I h => wpAny_execs_nil ⟨σ, H, I, h⟩
theorem pss_cons (h1 : PS X st t) (h2 : PSs X rest u) : PSs X (st :: rest) (tSeq t u) := by
  intro pins s σ H D I h
  refine wpAny_execs_cons (thn (h1 pins s σ H { D with nx := u D } I h) fun f s1 q => ?_)
  cases f with
  | next =>
    obtain ⟨σ', H', I', q⟩ := q
    exact h2 pins s1 σ' H' D I' q
  | ret v => exact q
  | brk => exact q
  | cont => exact q
theorem pss_one (h1 : PS X st t) : PSs X [st] t := by
  intro pins s σ H D I h
  refine wpAny_execs_cons (thn (h1 pins s σ H D I h) fun f s1 q => ?_)
  cases f with
  | next => exact wpAny_execs_nil q
  | ret v => exact q
  | brk => exact q
  | cont => exact q
/-- in a def's body nothing is shown -/
theorem Inv.quiet {pins : List (Addr × Obj)} {σ : St} {H : Hp} {s : Shared} (I : Inv X pins σ H s) : interactive X.env = false := by simp [interactive, I.ok.kind]
/-- an expression whose value is dropped -/
def tDrop (te : TE) : TS := fun D σ H => te σ H fun _ H1 => D.nx σ H1
theorem ps_expr (he : PE X e te) (hs : swapsWith e none pos.line X.env = pure false := by rfl) : PS X (.Expr e pos) (tDrop te) := by
  intro pins s σ H D I h
  exact wpAny_Expr_any (thn (he pins s σ H _ I h) fun v s1 ⟨x, H1, I1, r1, q1⟩ => ⟨σ, H1, I1, q1⟩) I.quiet hs
def tRet (te : TE) : TS := fun D σ H => te σ H D.rt
theorem ps_ret (he : PE X e te) : PS X (.Return (some e) pos) (tRet te) := by
  intro pins s σ H D I h
  exact wpAny_Return_some (thn (he pins s σ H _ I h) fun v s1 ⟨x, H1, I1, r1, q1⟩ => ⟨x, σ, H1, I1, r1, q1⟩)
def tIfS (c : TT) (t u : TS) : TS := fun D σ H => c σ H fun b H1 => if b = true then t D σ H1 else u D σ H1
theorem ps_if {c : Expr} {a b : List Stmt} {tc : TT} (hc : PT X c tc) (ha : PSs X a t) (hb : PSs X b u) : PS X (.If c a b pos) (tIfS tc t u) := by
  intro pins s σ H D I h
  refine wpAny_If (thn (hc pins s σ H _ I h) fun d s1 ⟨H1, I1, q1⟩ => ?_)
  cases d with
  | true => exact ha pins s1 σ H1 D I1 q1
  | false => exact hb pins s1 σ H1 D I1 q1
end

/-! ### targets -/
abbrev TG := V → St → Hp → (St → Hp → Prop) → Prop
def PG (X : Cx) (target : Expr) (t : TG) : Prop :=
  ∀ (pins : List (Addr × Obj)) (s : Shared) (σ : St) (H : Hp) (v : V) (u : Value) (Q : St → Hp → Prop), Inv X pins σ H s → RelV v u → t v σ H Q →
    wpAny (model X.prog X.w) X.A (assign target X.env u) (fun _ s' => ∃ σ' H', Inv X pins σ' H' s' ∧ Q σ' H') X.xe s
section
variable {X : Cx} {pos : Pos}
def gName (i : Nat) : TG := fun v σ H Q => Q (σ.set i (some v)) H
theorem pg_name {i : Nat} {x : Str} (hN : X.N.Nodup) (hi : X.N[i]? = some x) (hx : Loc X.env.scope x) (hf : X.fn x = true ∨ X.env.scope.names.lookup x = some .local := by first | exact .inl rfl | exact .inr rfl | assumption) : PG X (.Name x pos) (gName i) := by
  intro pins s σ H v u Q I r h
  exact wpAny_assign_Name (store_ok I hN hi hx r (fun s' I' => ⟨_, H, I', h⟩) hf)
/-- target = value -/
def tAsg (te : TE) (g : TG) : TS := fun D σ H => te σ H fun x H1 => g x σ H1 D.nx
/-- name = value -/
theorem ps_set {i : Nat} {x : Str} {e : Expr} {te : TE} {pos' : Pos} (hN : X.N.Nodup) (hi : X.N[i]? = some x) (hx : Loc X.env.scope x) (he : PE X e te) (hs : swapsWith e (some (.Name x pos')) pos.line X.env = pure false := by rfl) (hf : X.fn x = true ∨ X.env.scope.names.lookup x = some .local := by first | exact .inl rfl | exact .inr rfl | assumption) :
    PS X (.Assign [.Name x pos'] e pos) (tAsg te (gName i)) := by
  intro pins s σ H D I h
  refine wpAny_Assign_Name (thn (he pins s σ H _ I h) fun v s1 ⟨y, H1, I1, r1, q1⟩ => ?_) hs
  exact store_ok I1 hN hi hx r1 (fun s2 I2 => ⟨_, H1, I2, q1⟩) hf
end

/-! ### while -/
section
variable {X : Cx} {pos : Pos}
/-- the invariant W with its measure -/
def tWhile (c : TT) (tb : TS) : TS := fun D σ H => ∃ W : Nat → St → Hp → Prop, (∃ m, W m σ H) ∧ ∀ m σ H, W m σ H →
  c σ H fun b H1 => if b = true then ∃ N : St → Hp → Prop, (∀ σ' H', N σ' H' → ∃ m', m' < m ∧ W m' σ' H') ∧ tb { D with nx := N, ct := N, bk := D.nx } σ H1 else D.nx σ H1
theorem ps_while {c : Expr} {body : List Stmt} {tc : TT} {tb : TS} (hp : PassesOwn (model X.prog X.w) X.A X.env X.xe) (hc : PT X c tc) (hb : PSs X body tb) : PS X (.While c body [] pos) (tWhile tc tb) := by
  intro pins s σ H D I h
  obtain ⟨W, ⟨m0, w0⟩, turn⟩ := h
  refine wpAny_While (codeAny_whileLoop (fun n s' => ∃ σ' H', Inv X pins σ' H' s' ∧ W n σ' H') ?_ m0 ⟨σ, H, I, w0⟩)
  rintro n s1 ⟨σ1, H1, I1, w1⟩
  refine wpAny_passesOwn hp (thn (hc pins s1 σ1 H1 _ I1 (turn n σ1 H1 w1)) fun b s2 ⟨H2, I2, q2⟩ => ?_)
  cases b with
  | true =>
    obtain ⟨N, hN, q2⟩ := q2
    rw [if_pos rfl]
    refine wpAny_passesOwn hp (thn (hb pins s2 σ1 H2 _ I2 q2) fun f s3 q3 => ?_)
    cases f with
    | next =>
      obtain ⟨σ3, H3, I3, n3⟩ := q3
      obtain ⟨m', hm, w3⟩ := hN σ3 H3 n3
      exact ⟨m', hm, σ3, H3, I3, w3⟩
    | cont =>
      obtain ⟨σ3, H3, I3, n3⟩ := q3
      obtain ⟨m', hm, w3⟩ := hN σ3 H3 n3
      exact ⟨m', hm, σ3, H3, I3, w3⟩
    | brk => exact q3
    | ret v => exact q3
  | false =>
    rw [if_neg Bool.false_ne_true]
    exact wpAny_execs_nil ⟨σ1, H2, I2, q2⟩
end

/-! ### what a loop or a comprehension walks -/
/-- at turn i: it yields x (the heap may grow), or it stops -/
structure It where
  go : Nat → Hp → Prop
  yld : Nat → Hp → V → Hp → Prop
  stop : Nat → Hp → Prop
/-- the iterator's own objects may turn: they are not the frame's, not pinned, younger than the entry (or a comprehension's own) -/
def FpOk (X : Cx) (pins : List (Addr × Obj)) (H : Hp) (b : Addr) : Prop :=
  H b = none ∧ b ≠ X.env.locals ∧ b ∉ X.fs ∧ (b ∈ X.ex ∨ X.s₀.heap.objs.size ≤ b) ∧ (∀ x c, X.env.cells.lookup x = some c → c ≠ b) ∧ ∀ p ∈ X.pn ++ pins, p.1 ≠ b
theorem Inv.fpOk {X : Cx} {pins : List (Addr × Obj)} {σ : St} {H H' : Hp} {s : Shared} {b : Addr} (I : Inv X pins σ H s) (hb : s.heap.objs.size ≤ b) (hn : H' b = none) : FpOk X pins H' b := by
  refine ⟨hn, Nat.ne_of_gt (Nat.lt_of_lt_of_le I.lt hb), I.nofs hb, .inr (Nat.le_trans I.sz hb), fun x c e z => ?_, fun p hp z => ?_⟩
  · obtain ⟨v, q⟩ := I.cell x c e
    exact absurd (Nat.lt_of_lt_of_le q.lt (by rw [z]; exact hb)) (Nat.lt_irrefl _)
  · exact absurd (Nat.lt_of_lt_of_le (Heap.lt_size (I.pin p hp).1) (by rw [z]; exact hb)) (Nat.lt_irrefl _)
structure Turn (P : Program) (w : World) (K : PySem.W.Frag) (tg : Expr) (J : It) (fp : List Addr) (it : Addr) (tn : Nat → Heap → Prop) : Prop where
  mem : it ∈ fp
  obj : ∀ i h, tn i h → ∀ b ∈ fp, ∃ o, h.get? b = some o ∧ ∀ v, o.data ≠ .cell v
  keep : ∀ i h h', tn i h → (∀ b ∈ fp, ∀ o, h.get? b = some o → h'.get? b = some o) → tn i h'
  item : ∀ (X : Cx), X.prog = P → X.w = w → X.K = K → X.calm = true → ∀ (i : Nat) (pins : List (Addr × Obj)) (s : Shared) (σ : St) (H : Hp) (E : Value → Shared → Prop), Inv X pins σ H s → (∀ b ∈ fp, FpOk X pins H b) → tn i s.heap → J.go i H →
    wpAny (model P w) X.A (pyNext (.ref it)) (fun r s1 => ∃ u, r = some u ∧
      wpAny (model P w) X.A (letOwnedTupleGo tg (.ref it) u) (fun _ s2 => ∃ x H', Inv X pins σ H' s2 ∧ RelV x u ∧ J.yld i H x H' ∧ tn (i + 1) s2.heap ∧ ∀ b ∈ fp, H' b = none) E s1) E s
  done : ∀ (X : Cx), X.prog = P → X.w = w → X.K = K → X.calm = true → ∀ (i : Nat) (pins : List (Addr × Obj)) (s : Shared) (σ : St) (H : Hp) (E : Value → Shared → Prop), Inv X pins σ H s → (∀ b ∈ fp, FpOk X pins H b) → tn i s.heap → J.stop i H →
    wpAny (model P w) X.A (pyNext (.ref it)) (fun r s1 => r = none ∧ Inv X pins σ H s1) E s
  self : ∀ (A : Around) (i : Nat) (s : Shared) (Q : Value → Shared → Prop) (E : Value → Shared → Prop), tn i s.heap → Q (.ref it) s → wpAny (model P w) A (pyIter (.ref it)) Q E s
abbrev TI := St → Hp → (It → Hp → Prop) → Prop
/-- an iterator has come -/
def PIE (X : Cx) (pins : List (Addr × Obj)) (σ : St) (tg : Expr) (R : It → Hp → Prop) (itv : Value) (s2 : Shared) : Prop :=
  ∃ (it : Addr) (fp : List Addr) (tn : Nat → Heap → Prop) (J : It) (H' : Hp), itv = .ref it ∧ Inv X pins σ H' s2 ∧ Turn X.prog X.w X.K tg J fp it tn ∧ tn 0 s2.heap ∧ (∀ b ∈ fp, FpOk X pins H' b) ∧ R J H'
def PI (X : Cx) (tg iter : Expr) (wi : TI) : Prop :=
  ∀ (pins : List (Addr × Obj)) (s : Shared) (σ : St) (H : Hp) (R : It → Hp → Prop), Inv X pins σ H s → wi σ H R →
    wpAny (model X.prog X.w) X.A (eval iter X.env) (fun v s1 => wpAny (model X.prog X.w) X.A (pyIter v) (PIE X pins σ tg R) X.xe s1) X.xe s

/-- the step ahead of the store is nothing for an iterator that keeps no tuple -/
theorem go_of {M : Model} {A : Around} {E : Value → Shared → Prop} {s : Shared} {tg : Expr} {it : Addr} {u : Value} {o : Obj} {n : String} {vs : Array Value} {Q : Unit → Shared → Prop} (ho : s.heap.get? it = some o) (hc : o.cls = .type n) (hd : o.data = .fields vs)
    (hn : ["enumerate", "zip", "dict_itemiterator", "dict_reverseitemiterator", "odict_iterator", "itertools.zip_longest", "itertools.pairwise"].contains n = false) (hQ : Q () s) : wpAny M A (letOwnedTupleGo tg (.ref it) u) Q E s := by
  unfold letOwnedTupleGo
  cases tg <;> first
    | exact wpAny_pure hQ
    | (cases u <;> first
        | exact wpAny_pure hQ
        | (refine wpAny_bind (wpAny_load ho ?_)
           rw [hc, hd]
           show wpAny M A (if (["enumerate", "zip", "dict_itemiterator", "dict_reverseitemiterator", "odict_iterator", "itertools.zip_longest", "itertools.pairwise"].contains n && vs[0]? == some (rawInt _)) = true then _ else _) Q E s
           rw [if_neg (by intro h; rw [hn, Bool.false_and] at h; cases h)]
           exact wpAny_pure hQ))

/-- the list at a, as it stands at each turn (a loop may append to it) -/
def Itl (K : PySem.W.Frag) (a : Addr) : It :=
  ⟨fun i H => ∃ xs x, SqL K H a xs ∧ xs[i]? = some x, fun i H x H' => H' = H ∧ ∀ xs, SqL K H a xs → xs[i]? = some x, fun i H => ∃ xs, SqL K H a xs ∧ xs.length ≤ i⟩
def Itt (K : PySem.W.Frag) (a : Addr) : It :=
  ⟨fun i H => ∃ xs x, SqT K H a xs ∧ xs[i]? = some x, fun i H x H' => H' = H ∧ ∀ xs, SqT K H a xs → xs[i]? = some x, fun i H => ∃ xs, SqT K H a xs ∧ xs.length ≤ i⟩
/-- lo, lo + 1, .. (n of them) -/
def Itr (lo : Int) (n : Nat) : It := ⟨fun i _ => i < n, fun i H x H' => H' = H ∧ x = .int (lo + i), fun i _ => n ≤ i⟩
theorem turn_list {P : Program} {w : World} {K : PySem.W.Frag} {tg : Expr} (a it : Addr) : Turn P w K tg (Itl K a) [it] it (fun i h => h.IsListIter it a i) where
  mem := by simp
  obj := fun i h st b hb => by
    have e : b = it := by simpa using hb
    subst e
    obtain ⟨o, e, c, d⟩ := st
    exact ⟨o, e, fun v z => by rw [d] at z; cases z⟩
  keep := fun i h h' st k => st.at fun o e => k it (by simp) o e
  item := by
    intro X hP hw hK hc i pins s σ H E I hf st hg
    subst hP hw hK
    obtain ⟨xs, x, hq, hx⟩ := hg
    obtain ⟨its, rv, p, hz⟩ := I.list hq
    obtain ⟨u, hu, ru⟩ := rv.get hx
    obtain ⟨f0, f1, f2, f3, f4, f5⟩ := hf it (by simp)
    refine wpAny_pyNext_list_item st p.isList (x := u) (by simpa using hu) fun h' st' sb => ?_
    have I1 : Inv X pins σ H { s with heap := h' } := I.turned (t' := s.toks) (fun b o hb e => (sb.2 b hb).trans e) f0 f1 f3 f4 f5
    obtain ⟨o, e, c, d⟩ := id st'
    exact ⟨u, rfl, go_of (s := { s with heap := h' }) e c d (by decide) ⟨x, H, I1, ru, ⟨rfl, fun ys hy => by rw [I.list_inj hy hq]; exact hx⟩, st', fun b hb => (hf b hb).1⟩⟩
  done := by
    intro X hP hw hK hc i pins s σ H E I hf st hg
    subst hP hw hK
    obtain ⟨xs, hq, hx⟩ := hg
    obtain ⟨its, rv, p, hz⟩ := I.list hq
    obtain ⟨f0, f1, f2, f3, f4, f5⟩ := hf it (by simp)
    have hl := rv.length
    exact wpAny_pyNext_list_end (I.ok.hd hc) st p.isList (by simp; omega) fun h' eb => ⟨rfl, I.turned (t' := s.toks) (fun b o hb e => eb b o hb e) f0 f1 f3 f4 f5⟩
  self := fun _ _ _ _ _ st h => wpAny_pyIter_listiter st h
theorem turn_tuple {P : Program} {w : World} {K : PySem.W.Frag} {tg : Expr} (a it : Addr) : Turn P w K tg (Itt K a) [it] it (fun i h => h.IsTupleIter it a i) where
  mem := by simp
  obj := fun i h st b hb => by
    have e : b = it := by simpa using hb
    subst e
    obtain ⟨o, e, c, d⟩ := st
    exact ⟨o, e, fun v z => by rw [d] at z; cases z⟩
  keep := fun i h h' st k => st.at fun o e => k it (by simp) o e
  item := by
    intro X hP hw hK hc i pins s σ H E I hf st hg
    subst hP hw hK
    obtain ⟨xs, x, hq, hx⟩ := hg
    obtain ⟨its, rv, p, hz⟩ := I.tuple hq
    obtain ⟨u, hu, ru⟩ := rv.get hx
    obtain ⟨f0, f1, f2, f3, f4, f5⟩ := hf it (by simp)
    refine wpAny_pyNext_tuple_item st (show s.heap.IsTuple a its.toArray from p) (x := u) (by simpa using hu) fun h' st' sb => ?_
    have I1 : Inv X pins σ H { s with heap := h' } := I.turned (t' := s.toks) (fun b o hb e => (sb.2 b hb).trans e) f0 f1 f3 f4 f5
    obtain ⟨o, e, c, d⟩ := id st'
    exact ⟨u, rfl, go_of (s := { s with heap := h' }) e c d (by decide) ⟨x, H, I1, ru, ⟨rfl, fun ys hy => by rw [I.tuple_inj hy hq]; exact hx⟩, st', fun b hb => (hf b hb).1⟩⟩
  done := by
    intro X hP hw hK hc i pins s σ H E I hf st hg
    subst hP hw hK
    obtain ⟨xs, hq, hx⟩ := hg
    obtain ⟨its, rv, p, hz⟩ := I.tuple hq
    obtain ⟨f0, f1, f2, f3, f4, f5⟩ := hf it (by simp)
    have hl := rv.length
    exact wpAny_pyNext_tuple_end (I.ok.hd hc) st (show s.heap.IsTuple a its.toArray from p) (by simp; omega) fun h' eb => ⟨rfl, I.turned (t' := s.toks) (fun b o hb e => eb b o hb e) f0 f1 f3 f4 f5⟩
  self := fun _ _ _ _ _ st h => wpAny_pyIter_tupleiter st h
theorem turn_range {P : Program} {w : World} {K : PySem.W.Frag} {tg : Expr} (it : Addr) (lo : Int) (n : Nat) : Turn P w K tg (Itr lo n) [it] it (fun i h => IsRangeIter h it (lo + (i : Nat) * 1) ((n : Int) - (i : Nat)) 1) where
  mem := by simp
  obj := fun i h st b hb => by
    have e : b = it := by simpa using hb
    subst e
    exact ⟨_, st, fun v z => by
      have z' : Data.fields _ = Data.cell v := z
      cases z'⟩
  keep := fun i h h' st k => k it (by simp) _ st
  item := by
    intro X hP hw hK hc i pins s σ H E I hf st hg
    subst hP hw hK
    obtain ⟨f0, f1, f2, f3, f4, f5⟩ := hf it (by simp)
    have W := Walks.range (prog := X.prog) (w := X.w) (I.ok.hd hc) it lo 1 n
    refine W.item i s _ _ hg st fun v h' tk hv st' kk => ?_
    obtain ⟨t, rfl⟩ := hv
    have I1 : Inv X pins σ H { s with heap := h', toks := tk } := I.turned (fun b o hb e => kk b o (by simpa using hb) e) f0 f1 f3 f4 f5
    refine ⟨_, rfl, go_of (s := { s with heap := h', toks := tk }) (n := "range_iterator") st' rfl rfl (by decide) ⟨.int (lo + i), H, I1, ⟨t, ?_⟩, ⟨rfl, rfl⟩, st', fun b hb => (hf b hb).1⟩⟩
    rw [Int.mul_one]
  done := by
    intro X hP hw hK hc i pins s σ H E I hf st hg
    subst hP hw hK
    obtain ⟨f0, f1, f2, f3, f4, f5⟩ := hf it (by simp)
    exact wpAny_pyNext_range_end (I.ok.hd hc) st (by have : n ≤ i := hg; omega) fun h' eb => ⟨rfl, I.turned (t' := s.toks) (fun b o hb e => eb b o hb e) f0 f1 f3 f4 f5⟩
  self := fun _ _ _ _ _ st h => wpAny_pyIter_rangeiter st h
end L2

namespace L2
open PySem PySem.Spec PyProof.Rows
section
variable {X : Cx} {tg : Expr}
def iList (K : PySem.W.Frag) (tl : TE) : TI := fun σ H R => tl σ H fun x H1 => ∃ a, x = .ref a ∧ (∃ xs, SqL K H1 a xs) ∧ R (Itl K a) H1
def iTup (K : PySem.W.Frag) (tl : TE) : TI := fun σ H R => tl σ H fun x H1 => ∃ a, x = .ref a ∧ (∃ xs, SqT K H1 a xs) ∧ R (Itt K a) H1
theorem pi_list {l : Expr} {tl : TE} (hl : PE X l tl) : PI X tg l (iList X.K tl) := by
  intro pins s σ H R I h
  refine thn (hl pins s σ H _ I h) fun v s1 ⟨x, H1, I1, r1, q1⟩ => ?_
  obtain ⟨a, e, ⟨xs, hq⟩, q⟩ := q1
  subst e
  cases r1
  obtain ⟨its, rv, p, hz⟩ := I1.list hq
  refine wpAny_pyIter_list p.isList ?_
  refine ⟨s1.heap.objs.size, [s1.heap.objs.size], _, _, H1, rfl, I1.kept (t' := s1.toks) fun b o e => Heap.get?_push_of_some _ e, turn_list a _, ⟨_, Heap.get?_push_size _ rfl, rfl, rfl⟩, fun b hb => ?_, q⟩
  have e : b = s1.heap.objs.size := by simpa using hb
  subst e
  exact I1.fpOk (Nat.le_refl _) (I1.hok.fresh (Nat.le_refl _))
theorem pi_tup {l : Expr} {tl : TE} (hl : PE X l tl) : PI X tg l (iTup X.K tl) := by
  intro pins s σ H R I h
  refine thn (hl pins s σ H _ I h) fun v s1 ⟨x, H1, I1, r1, q1⟩ => ?_
  obtain ⟨a, e, ⟨xs, hq⟩, q⟩ := q1
  subst e
  cases r1
  obtain ⟨its, rv, p, hz⟩ := I1.tuple hq
  refine wpAny_pyIter_tuple (show s1.heap.IsTuple a its.toArray from p) ?_
  refine ⟨s1.heap.objs.size, [s1.heap.objs.size], _, _, H1, rfl, I1.kept (t' := s1.toks) fun b o e => Heap.get?_push_of_some _ e, turn_tuple a _, ⟨_, Heap.get?_push_size _ rfl, rfl, rfl⟩, fun b hb => ?_, q⟩
  have e : b = s1.heap.objs.size := by simpa using hb
  subst e
  exact I1.fpOk (Nat.le_refl _) (I1.hok.fresh (Nat.le_refl _))
/-- a range object just made, walked -/
theorem range_it {pins : List (Addr × Obj)} {σ : St} {H : Hp} {s : Shared} {R : It → Hp → Prop} {E : Value → Shared → Prop} {lo hi : Int} {t u v : Tok} {tk : Nat} (I : Inv X pins σ H s) (h1 : -(2 ^ 62) ≤ lo) (h2 : lo < 2 ^ 62) (h3 : -(2 ^ 62) ≤ hi) (h4 : hi < 2 ^ 62)
    (q : R (Itr lo (hi - lo).toNat) H) : wpAny (model X.prog X.w) X.A (pyIter (.ref s.heap.objs.size)) (PIE X pins σ tg R) E { s with heap := s.heap.push { cls := .type "range", data := .fields #[.int lo t, .int hi u, .int 1 v] }, toks := tk } := by
  refine wpAny_pyIter_range (IsRange.new ..) (small_one h1 h2 h3 h4) ?_
  have I1 : Inv X pins σ H { s with heap := s.heap.push { cls := .type "range", data := .fields #[.int lo t, .int hi u, .int 1 v] }, toks := tk } := I.kept fun b o e => Heap.get?_push_of_some _ e
  refine ⟨(s.heap.push { cls := .type "range", data := .fields #[.int lo t, .int hi u, .int 1 v] }).objs.size, [(s.heap.push { cls := .type "range", data := .fields #[.int lo t, .int hi u, .int 1 v] }).objs.size], _, _, H, rfl,
    I1.kept (t' := tk) fun b o e => Heap.get?_push_of_some _ e, turn_range _ lo (hi - lo).toNat, ?_, fun b hb => ?_, q⟩
  · have e1 : lo + ((0 : Nat) : Int) * 1 = lo := by simp
    have e2 : (((hi - lo).toNat : Nat) : Int) - ((0 : Nat) : Int) = Builtin.Range.rangeSize lo hi 1 := by rw [rangeSize_one]; split <;> omega
    show IsRangeIter _ _ (lo + ((0 : Nat) : Int) * 1) ((((hi - lo).toNat : Nat) : Int) - ((0 : Nat) : Int)) 1
    rw [e1, e2]
    exact Heap.get?_push_size _ rfl
  · have e : b = (s.heap.push { cls := .type "range", data := .fields #[.int lo t, .int hi u, .int 1 v] }).objs.size := by simpa using hb
    subst e
    exact I1.fpOk (Nat.le_refl _) (I1.hok.fresh (Nat.le_refl _))
def iRng2 (ta : TA) : TI := fun σ H R => ta σ H fun vs H1 => ∃ i j : Int, vs = [.int i, .int j] ∧ (-(2 ^ 62) ≤ i ∧ i < 2 ^ 62 ∧ -(2 ^ 62) ≤ j ∧ j < 2 ^ 62) ∧ R (Itr i (j - i).toNat) H1
theorem pi_range2 {a b : Expr} {ta : TA} {p pos : Pos} (hg : Gl X "range") (hm : X.mg "range" = none) (ha : PA X [a, b] ta) (hs : starEach [a, b] X.env = [(false, eval a X.env), (false, eval b X.env)] := by rfl) (hs2 : starEach [b] X.env = [(false, eval b X.env)] := by rfl) :
    PI X tg (.Call (.Name "range" p) [a, b] [] pos) (iRng2 ta) := by
  intro pins s σ H R I h
  refine Call_ (ld_blt I hg hm boot_range (PyProof.Rows.callWith_type1 (thn (ha pos pins s σ H _ I h) fun us s1 ⟨vs, H1, I1, r1, q1⟩ => ?_) (by rw [hs, hs2]) (by rw [hs2]; rfl)))
  obtain ⟨i, j, e, ⟨q1, q2, q3, q4⟩, q⟩ := q1
  subst e
  cases r1 with
  | cons r rr =>
    cases rr with
    | cons r' rr =>
      cases rr
      obtain ⟨t, rfl⟩ := r
      obtain ⟨t', rfl⟩ := r'
      exact call_range_2 (range_it I1 q1 q2 q3 q4 q)

/-! ### for -/
/-- W: the invariant by the turn and a measure; N: what the body is to reach -/
def tFor (wi : TI) (g : TG) (tb : TS) : TS := fun D σ H => wi σ H fun J H1 => ∃ W : Nat → Nat → St → Hp → Prop, (∃ m, W 0 m σ H1) ∧ ∀ i m σ H, W i m σ H →
  (J.stop i H ∧ D.nx σ H) ∨ (J.go i H ∧ ∃ N : St → Hp → Prop, (∀ σ' H', N σ' H' → ∃ m', m' < m ∧ W (i + 1) m' σ' H') ∧ ∀ x H', J.yld i H x H' → g x σ H' fun σ2 H2 => tb { D with nx := N, ct := N, bk := D.nx } σ2 H2)
/-- the records at fp as they stand -/
def pinsAt (fp : List Addr) (h : Heap) : List (Addr × Obj) := fp.filterMap fun b => (h.get? b).map fun o => (b, o)
theorem mem_pinsAt {fp : List Addr} {h : Heap} {b : Addr} {o : Obj} (hb : b ∈ fp) (e : h.get? b = some o) : (b, o) ∈ pinsAt fp h := List.mem_filterMap.mpr ⟨b, hb, by rw [e]; rfl⟩
theorem of_pinsAt {fp : List Addr} {h : Heap} {p : Addr × Obj} (hp : p ∈ pinsAt fp h) : p.1 ∈ fp ∧ h.get? p.1 = some p.2 := by
  obtain ⟨b, hb, e⟩ := List.mem_filterMap.mp hp
  cases q : h.get? b with
  | none => rw [q] at e; cases e
  | some o =>
    rw [q] at e
    have e' : (b, o) = p := Option.some.inj e
    subst e'
    exact ⟨hb, q⟩
theorem Inv.pinned {pins : List (Addr × Obj)} {σ : St} {H : Hp} {s : Shared} {fp : List Addr} (I : Inv X pins σ H s) (hf : ∀ b ∈ fp, FpOk X pins H b) (ho : ∀ b ∈ fp, ∃ o, s.heap.get? b = some o ∧ ∀ v, o.data ≠ .cell v) : Inv X (pins ++ pinsAt fp s.heap) σ H s :=
  I.pins_of fun p hp => (List.mem_append.mp hp).elim (fun z => I.pin p (List.mem_append_right _ z)) fun z => by
    obtain ⟨hb, e⟩ := of_pinsAt z
    obtain ⟨f0, f1, f2, _⟩ := hf p.1 hb
    obtain ⟨o, e', d⟩ := ho p.1 hb
    rw [e] at e'; cases e'
    exact ⟨e, f0, f1, f2, d⟩
theorem Inv.unpinned {pins pl : List (Addr × Obj)} {σ : St} {H : Hp} {s : Shared} (I : Inv X (pins ++ pl) σ H s) : Inv X pins σ H s := I.pins_of fun p hp => I.pin p (List.mem_append_right _ (List.mem_append_left _ hp))
theorem ps_for {iter : Expr} {body : List Stmt} {wi : TI} {g : TG} {tb : TS} {pos : Pos} (hp : PassesOwn (model X.prog X.w) X.A X.env X.xe) (hc : X.calm = true) (hi : PI X tg iter wi) (hg : PG X tg g) (hb : PSs X body tb)
    (hs : ∀ x, foldedSetIterable iter X.env x = pure x := by intro _; rfl) : PS X (.For tg iter body [] pos) (tFor wi g tb) := by
  intro pins s σ H D I h
  refine wpAny_For (thn (hi pins s σ H _ I h) fun v s1 h1 => thn h1 fun itv s2 h2 => ?_) hs
  obtain ⟨it, fp, tn, J, H2, e, I2, T, st2, f2, W, ⟨m0, w0⟩, turn⟩ := h2
  subst e
  -- what stays true of the iterator's objects through the loop
  have stat : ∀ {H' : Hp}, (∀ b ∈ fp, H' b = none) → ∀ b ∈ fp, FpOk X pins H' b := fun hn b hb => ⟨hn b hb, (f2 b hb).2⟩
  refine codeAny_forLoop_any (fun n s' => ∃ i σ' H', Inv X pins σ' H' s' ∧ tn i s'.heap ∧ (∀ b ∈ fp, H' b = none) ∧ W i n σ' H') ?_ m0 ⟨0, σ, H2, I2, st2, fun b hb => (f2 b hb).1, w0⟩
  rintro n s3 ⟨i, σ3, H3, I3, st3, fr3, w3⟩
  rcases turn i n σ3 H3 w3 with ⟨stop, qn⟩ | ⟨go, N, hN, step⟩
  · refine wpAny_passesOwn hp (thn (T.done X rfl rfl rfl hc i pins s3 σ3 H3 X.xe I3 (stat fr3) st3 stop) fun r s4 ⟨hr, I4⟩ => ?_)
    subst hr
    exact wpAny_execs_nil ⟨σ3, H3, I4, qn⟩
  · refine wpAny_passesOwn hp (thn (T.item X rfl rfl rfl hc i pins s3 σ3 H3 X.xe I3 (stat fr3) st3 go) fun r s4 ⟨u, hr, h4⟩ => ?_)
    subst hr
    refine wpAny_passesOwn hp (thn h4 fun _ s5 ⟨x, H5, I5, r5, y5, st5, fr5⟩ => ?_)
    have I5' := I5.pinned (stat fr5) (T.obj _ _ st5)
    refine wpAny_passesOwn hp (thn (hg _ s5 σ3 H5 x u _ I5' r5 (step x H5 y5)) fun _ s6 ⟨σ6, H6, I6, q6⟩ => ?_)
    refine wpAny_passesOwn hp (thn (hb _ s6 σ6 H6 _ I6 q6) fun f s7 q7 => ?_)
    have again : ∀ {σ7 : St} {H7 : Hp}, Inv X (pins ++ pinsAt fp s5.heap) σ7 H7 s7 → N σ7 H7 → ∃ m, m < n ∧ ∃ i σ' H', Inv X pins σ' H' s7 ∧ tn i s7.heap ∧ (∀ b ∈ fp, H' b = none) ∧ W i m σ' H' := fun {σ7 H7} I7 n7 => by
      obtain ⟨m', hm, w7⟩ := hN σ7 H7 n7
      refine ⟨m', hm, i + 1, σ7, H7, I7.unpinned, T.keep _ _ _ st5 fun b hb o e => (I7.pin (b, o) (List.mem_append_right _ (List.mem_append_right _ (mem_pinsAt hb e)))).1, fun b hb => ?_, w7⟩
      obtain ⟨o, e, d⟩ := T.obj _ _ st5 b hb
      exact (I7.pin (b, o) (List.mem_append_right _ (List.mem_append_right _ (mem_pinsAt hb e)))).2.1
    cases f with
    | next => obtain ⟨σ7, H7, I7, n7⟩ := q7; exact again I7 n7
    | cont => obtain ⟨σ7, H7, I7, n7⟩ := q7; exact again I7 n7
    | brk => obtain ⟨σ7, H7, I7, q7⟩ := q7; exact ⟨σ7, H7, I7.unpinned, q7⟩
    | ret v => obtain ⟨x7, σ7, H7, I7, r7, q7⟩ := q7; exact ⟨x7, σ7, H7, I7.unpinned, r7, q7⟩
end

end L2

namespace L2
open PySem PySem.Spec PyProof.Rows

abbrev R2 := V → V → Hp → VK → Prop
/-- a two-place operation on values: f is binaryOp op, inplaceOp op or compareOp op -/
def OpR (X : Cx) (f : Value → Value → Sem Value) (r : R2) : Prop :=
  ∀ (pins : List (Addr × Obj)) (s : Shared) (σ : St) (H : Hp) (x y : V) (v u : Value) (Q : VK), Inv X pins σ H s → RelV x v → RelV y u → r x y H Q →
    wpAny (model X.prog X.w) X.A (f v u) (EP X pins σ Q) X.xe s
/-- a one-place operation -/
def UnR (X : Cx) (f : Value → Sem Value) (r : V → Hp → VK → Prop) : Prop :=
  ∀ (pins : List (Addr × Obj)) (s : Shared) (σ : St) (H : Hp) (x : V) (v : Value) (Q : VK), Inv X pins σ H s → RelV x v → r x H Q →
    wpAny (model X.prog X.w) X.A (f v) (EP X pins σ Q) X.xe s
/-- a call of a value that is known (a builtin, a type) with values -/
def CallR (X : Cx) (f : Value) (r : List V → Hp → VK → Prop) : Prop :=
  ∀ (pins : List (Addr × Obj)) (s : Shared) (σ : St) (H : Hp) (xs : List V) (us : List Value) (Q : VK), Inv X pins σ H s → Vals xs us → r xs H Q →
    wpAny (model X.prog X.w) X.A (call f us) (EP X pins σ Q) X.xe s
def tOp (r : R2) (ta tb : TE) : TE := fun σ H Q => ta σ H fun x H1 => tb σ H1 fun y H2 => r x y H2 Q
def tUn (r : V → Hp → VK → Prop) (ta : TE) : TE := fun σ H Q => ta σ H fun x H1 => r x H1 Q
/-- ints in, under C, and a value out -/
def rI (C : Int → Int → Prop) (g : Int → Int → V) : R2 := fun x y H Q => ∃ i j, x = .int i ∧ y = .int j ∧ C i j ∧ Q (g i j) H
def rI0 (g : Int → Int → V) : R2 := fun x y H Q => ∃ i j, x = .int i ∧ y = .int j ∧ Q (g i j) H
def rU (g : Int → V) : V → Hp → VK → Prop := fun x H Q => ∃ i, x = .int i ∧ Q (g i) H

section
variable {X : Cx} {a b c : Expr} {ta tb tc : TE} {pos : Pos}

theorem binT (ha : PE X a ta) (hb : PE X b tb) {pins : List (Addr × Obj)} {s : Shared} {σ : St} {H : Hp} {R : V → V → Hp → Prop} (I : Inv X pins σ H s)
    (h : ta σ H fun x H1 => tb σ H1 fun y H2 => R x y H2) {Q : Value → Shared → Prop} {f : Value → Value → Sem Value}
    (hf : ∀ v u s2 x y H2, Inv X pins σ H2 s2 → RelV x v → RelV y u → R x y H2 → wpAny (model X.prog X.w) X.A (f v u) Q X.xe s2) :
    wpAny (model X.prog X.w) X.A (eval a X.env) (fun v s₁ => wpAny (model X.prog X.w) X.A (eval b X.env) (fun u s₂ => wpAny (model X.prog X.w) X.A (f v u) Q X.xe s₂) X.xe s₁) X.xe s := by
  refine thn (ha pins s σ H _ I h) fun v s1 ⟨x, H1, I1, r1, q1⟩ => ?_
  refine thn (hb pins s1 σ H1 _ I1 q1) fun u s2 ⟨y, H2, I2, r2, q2⟩ => ?_
  exact hf v u s2 x y H2 I2 r1 r2 q2

theorem pe_op {op : Operator} {r : R2} (ho : OpR X (binaryOp op) r) (ha : PE X a ta) (hb : PE X b tb) : PE X (.BinOp a op b pos) (tOp r ta tb) := by
  intro pins s σ H Q I h
  exact wpAny_BinOp (binT ha hb I h fun v u s2 x y H2 I2 rx ry q => ho pins s2 σ H2 x y v u Q I2 rx ry q)
theorem pe_un {op : UnaryOp} {r : V → Hp → VK → Prop} (ho : UnR X (unaryOp op) r) (ha : PE X a ta) : PE X (.UnaryOp op a pos) (tUn r ta) := by
  intro pins s σ H Q I h
  exact UnaryOp_ (thn (ha pins s σ H _ I h) fun v s1 ⟨x, H1, I1, r1, q1⟩ => ho pins s1 σ H1 x v Q I1 r1 q1)
/-! ### ints -/
theorem opI {f : Value → Value → Sem Value} {C : Int → Int → Prop} {g : Int → Int → Int}
    (rule : ∀ (i j : Int) (t u : Tok) (s : Shared) (Q : Value → Shared → Prop) (E : Value → Shared → Prop), C i j → Q (.int (g i j) s.toks) { s with toks := s.toks + 1 } → wpAny (model X.prog X.w) X.A (f (.int i t) (.int j u)) Q E s) :
    OpR X f (rI C fun i j => .int (g i j)) := by
  intro pins s σ H x y v u Q I rx ry h
  obtain ⟨i, j, rfl, rfl, hc, q⟩ := h
  obtain ⟨t, rfl⟩ := rx
  obtain ⟨t', rfl⟩ := ry
  exact rule i j t t' s _ _ hc ⟨.int (g i j), H, I.tok _, ⟨_, rfl⟩, q⟩
theorem opI0 {f : Value → Value → Sem Value} {g : Int → Int → Int}
    (rule : ∀ (i j : Int) (t u : Tok) (s : Shared) (Q : Value → Shared → Prop) (E : Value → Shared → Prop), Q (.int (g i j) s.toks) { s with toks := s.toks + 1 } → wpAny (model X.prog X.w) X.A (f (.int i t) (.int j u)) Q E s) :
    OpR X f (rI0 fun i j => .int (g i j)) := by
  intro pins s σ H x y v u Q I rx ry h
  obtain ⟨i, j, rfl, rfl, q⟩ := h
  obtain ⟨t, rfl⟩ := rx
  obtain ⟨t', rfl⟩ := ry
  exact rule i j t t' s _ _ ⟨.int (g i j), H, I.tok _, ⟨_, rfl⟩, q⟩
theorem opB0 {f : Value → Value → Sem Value} {g : Int → Int → Bool}
    (rule : ∀ (i j : Int) (t u : Tok) (s : Shared) (Q : Value → Shared → Prop) (E : Value → Shared → Prop), Q (.bool (g i j)) s → wpAny (model X.prog X.w) X.A (f (.int i t) (.int j u)) Q E s) :
    OpR X f (rI0 fun i j => .bl (g i j)) := by
  intro pins s σ H x y v u Q I rx ry h
  obtain ⟨i, j, rfl, rfl, q⟩ := h
  obtain ⟨t, rfl⟩ := rx
  obtain ⟨t', rfl⟩ := ry
  exact rule i j t t' s _ _ ⟨.bl (g i j), H, I, rfl, q⟩

def CPow (i j : Int) : Prop := 0 ≤ j ∧ j ≤ 1000000 ∧ i.natAbs < 2 ^ 64
def CMul (i j : Int) : Prop := (-(2 ^ 64) < i ∧ i < 2 ^ 64) ∨ (-(2 ^ 64) < j ∧ j < 2 ^ 64)
theorem CMul.ok {i j : Int} (h : CMul i j) : IntMulOk i j := by
  rcases h with ⟨h1, h2⟩ | ⟨h1, h2⟩
  · exact .of_left (intBits_le_64 h1 h2)
  · exact .of_right (intBits_le_64 h1 h2)
theorem op_add : OpR X (binaryOp .Add) (rI0 fun i j => .int (i + j)) := opI0 fun _ _ _ _ _ _ _ q => add_int q
/-- % by a positive divisor of any size -/
theorem op_mod : OpR X (binaryOp .Mod) (rI (fun _ j => 0 < j) fun i j => .int (i % j)) := opI fun i j _ _ _ _ _ hc q => by
  have h1 : (0 : Int) < j := hc
  exact mod_int' (by omega) (by rw [Int.fmod_eq_emod_of_nonneg i (by omega)]; exact q)
theorem op_pow : OpR X (binaryOp .Pow) (rI CPow fun i j => .int (i ^ j.toNat)) := opI fun _ _ _ _ _ _ _ hc q => pow_int_small hc.1 hc.2.1 hc.2.2 q
theorem unI {f : Value → Sem Value} {g : Int → Int}
    (rule : ∀ (i : Int) (t : Tok) (s : Shared) (Q : Value → Shared → Prop) (E : Value → Shared → Prop), Q (.int (g i) s.toks) { s with toks := s.toks + 1 } → wpAny (model X.prog X.w) X.A (f (.int i t)) Q E s) :
    UnR X f (rU fun i => .int (g i)) := by
  intro pins s σ H x v Q I rx h
  obtain ⟨i, rfl, q⟩ := h
  obtain ⟨t, rfl⟩ := rx
  exact rule i t s _ _ ⟨.int (g i), H, I.tok _, ⟨_, rfl⟩, q⟩
theorem un_neg : UnR X (unaryOp .USub) (rU fun i => .int (-i)) := unI fun _ _ _ _ _ q => neg_int q
end

/-! ### comparisons -/
/-- the scalars that == tells apart as data does -/
def scal : V → V → Bool
  | .non, .non => true | .non, .int _ => true | .int _, .non => true | .non, .bl _ => true | .bl _, .non => true | .non, .str _ => true | .str _, .non => true
  | .int _, .int _ => true | .bl _, .bl _ => true | .str _, .str _ => true | .byt _, .byt _ => true
  | .int _, .str _ => true | .str _, .int _ => true | .bl _, .str _ => true | .str _, .bl _ => true
  | _, _ => false
def rEq : R2 := fun x y H Q => scal x y = true ∧ Q (.bl (decide (x = y))) H
def rNe : R2 := fun x y H Q => scal x y = true ∧ Q (.bl (!decide (x = y))) H

theorem dec_int {i j : Int} : decide (V.int i = V.int j) = (i == j) := by
  rw [Bool.eq_iff_iff]
  simp
theorem dec_bl {i j : Bool} : decide (V.bl i = V.bl j) = (i == j) := by
  rw [Bool.eq_iff_iff]
  simp
theorem dec_str {i j : Str} : decide (V.str i = V.str j) = (i == j) := by
  rw [Bool.eq_iff_iff]
  simp
theorem dec_byt {i j : Array UInt8} : decide (V.byt i = V.byt j) = (i.toList == j.toList) := by
  rw [Bool.eq_iff_iff]
  cases i
  cases j
  simp

section
variable {X : Cx} {a b c : Expr} {ta tb tc : TE} {pos : Pos}
theorem fin_bl {pins : List (Addr × Obj)} {σ : St} {H : Hp} {s : Shared} {Q : VK} {k k' : Bool} (I : Inv X pins σ H s) (q : Q (.bl k) H) (e : k = k') : EP X pins σ Q (.bool k') s := by
  subst e
  exact ⟨.bl k, H, I, rfl, q⟩
theorem op_eq : OpR X (compareOp .Eq) rEq := by
  intro pins s σ H x y v u Q I rx ry h
  obtain ⟨hs, q⟩ := h
  cases x with
  | non =>
    cases rx
    cases y with
    | non => cases ry; exact PySem.EqNone.eq_none_none (fin_bl I q (by simp))
    | bl j => cases ry; exact PySem.EqNone.eq_none_bool (fin_bl I q (by simp))
    | int j => obtain ⟨t', rfl⟩ := ry; exact PySem.EqNone.eq_none_int (fin_bl I q (by simp))
    | str j => obtain ⟨t', rfl⟩ := ry; exact PySem.EqNone.eq_none_str (fin_bl I q (by simp))
    | _ => exact absurd (show false = true from hs) Bool.false_ne_true
  | bl i =>
    cases rx
    cases y with
    | non => cases ry; exact PySem.EqNone.eq_bool_none (fin_bl I q (by simp))
    | bl j => cases ry; exact eq_bool (fin_bl I q dec_bl)
    | str j => obtain ⟨t', rfl⟩ := ry; exact PySem.EqMixed.eq_bool_str (fin_bl I q (by simp))
    | _ => exact absurd (show false = true from hs) Bool.false_ne_true
  | int i =>
    obtain ⟨t, rfl⟩ := rx
    cases y with
    | non => cases ry; exact PySem.EqNone.eq_int_none (fin_bl I q (by simp))
    | int j => obtain ⟨t', rfl⟩ := ry; exact eq_int (fin_bl I q dec_int)
    | str j => obtain ⟨t', rfl⟩ := ry; exact PySem.EqMixed.eq_int_str (fin_bl I q (by simp))
    | _ => exact absurd (show false = true from hs) Bool.false_ne_true
  | str i =>
    obtain ⟨t, rfl⟩ := rx
    cases y with
    | non => cases ry; exact PySem.EqNone.eq_str_none (fin_bl I q (by simp))
    | bl j => cases ry; exact PySem.EqMixed.eq_str_bool (fin_bl I q (by simp))
    | int j => obtain ⟨t', rfl⟩ := ry; exact PySem.EqMixed.eq_str_int (fin_bl I q (by simp))
    | str j => obtain ⟨t', rfl⟩ := ry; exact eq_str (fin_bl I q dec_str)
    | _ => exact absurd (show false = true from hs) Bool.false_ne_true
  | byt i =>
    obtain ⟨t, rfl⟩ := rx
    cases y with
    | byt j => obtain ⟨t', rfl⟩ := ry; exact PySem.W.eq_bytes (fin_bl I q dec_byt)
    | _ => exact absurd (show false = true from hs) Bool.false_ne_true
  | _ => cases y <;> exact absurd (show false = true from hs) Bool.false_ne_true
theorem op_ne : OpR X (compareOp .NotEq) rNe := by
  intro pins s σ H x y v u Q I rx ry h
  obtain ⟨hs, q⟩ := h
  cases x with
  | non =>
    cases rx
    cases y with
    | non => cases ry; exact PySem.EqNone.ne_none_none (fin_bl I q (by simp))
    | bl j => cases ry; exact PySem.EqNone.ne_none_bool (fin_bl I q (by simp))
    | int j => obtain ⟨t', rfl⟩ := ry; exact PySem.EqNone.ne_none_int (fin_bl I q (by simp))
    | str j => obtain ⟨t', rfl⟩ := ry; exact PySem.EqNone.ne_none_str (fin_bl I q (by simp))
    | _ => exact absurd (show false = true from hs) Bool.false_ne_true
  | bl i =>
    cases rx
    cases y with
    | non => cases ry; exact PySem.EqNone.ne_bool_none (fin_bl I q (by simp))
    | bl j => cases ry; exact ne_bool (fin_bl I q (congrArg not dec_bl))
    | str j => obtain ⟨t', rfl⟩ := ry; exact PySem.EqMixed.ne_bool_str (fin_bl I q (by simp))
    | _ => exact absurd (show false = true from hs) Bool.false_ne_true
  | int i =>
    obtain ⟨t, rfl⟩ := rx
    cases y with
    | non => cases ry; exact PySem.EqNone.ne_int_none (fin_bl I q (by simp))
    | int j => obtain ⟨t', rfl⟩ := ry; exact ne_int (fin_bl I q (congrArg not dec_int))
    | str j => obtain ⟨t', rfl⟩ := ry; exact PySem.EqMixed.ne_int_str (fin_bl I q (by simp))
    | _ => exact absurd (show false = true from hs) Bool.false_ne_true
  | str i =>
    obtain ⟨t, rfl⟩ := rx
    cases y with
    | non => cases ry; exact PySem.EqNone.ne_str_none (fin_bl I q (by simp))
    | bl j => cases ry; exact PySem.EqMixed.ne_str_bool (fin_bl I q (by simp))
    | int j => obtain ⟨t', rfl⟩ := ry; exact PySem.EqMixed.ne_str_int (fin_bl I q (by simp))
    | str j => obtain ⟨t', rfl⟩ := ry; exact ne_str (fin_bl I q (congrArg not dec_str))
    | _ => exact absurd (show false = true from hs) Bool.false_ne_true
  | byt i =>
    obtain ⟨t, rfl⟩ := rx
    cases y with
    | byt j => obtain ⟨t', rfl⟩ := ry; exact PySem.W.ne_bytes (fin_bl I q (congrArg not dec_byt))
    | _ => exact absurd (show false = true from hs) Bool.false_ne_true
  | _ => cases y <;> exact absurd (show false = true from hs) Bool.false_ne_true

theorem op_lt : OpR X (compareOp .Lt) (rI0 fun i j => .bl (decide (i < j))) := opB0 fun _ _ _ _ _ _ _ q => lt_int q
/-- is None, is not None: the right side a value none -/
theorem op_isN : OpR X (compareOp .Is) (fun x y H Q => y = .non ∧ Q (.bl (decide (x = .non))) H) := by
  intro pins s σ H x y v u Q I rx ry h
  obtain ⟨rfl, q⟩ := h
  cases ry
  refine is_none_gen (fin_bl I q ?_)
  cases x <;> first
    | (cases rx; rfl)
    | (obtain ⟨t, rfl⟩ := rx; rfl)
/-- two rules for one operation: by cases -/
theorem OpR.or {f : Value → Value → Sem Value} {r r' : R2} (h : OpR X f r) (h' : OpR X f r') : OpR X f (fun x y H Q => r x y H Q ∨ r' x y H Q) := by
  intro pins s σ H x y v u Q I rx ry q
  rcases q with q | q
  · exact h pins s σ H x y v u Q I rx ry q
  · exact h' pins s σ H x y v u Q I rx ry q

theorem nomark (b : Expr) {op : CmpOp} (h : op ≠ .In := by decide) (h2 : op ≠ .NotIn := by decide) : behindInMarks op b = false := by
  have e1 : (op == CmpOp.In) = false := by cases op <;> first | rfl | exact absurd rfl h
  have e2 : (op == CmpOp.NotIn) = false := by cases op <;> first | rfl | exact absurd rfl h2
  cases b <;> simp [behindInMarks, e1, e2]
/-- a comparison as a value; hm: nomark b, or (for in, not in) by with_unfolding_all rfl -/
theorem pe_cmpR {op : CmpOp} {r : R2} (ho : OpR X (compareOp op) r) (ha : PE X a ta) (hb : PE X b tb) (hm : behindInMarks op b = false) : PE X (.Compare a [op] [b] pos) (tOp r ta tb) := by
  intro pins s σ H Q I h
  exact wpAny_Compare1 (binT ha hb I h fun v u s2 x y H2 I2 rx ry q => ho pins s2 σ H2 x y v u Q I2 rx ry q) hm
/-- a reading of a value as a test -/
def tTest (t : TE) : TT := fun σ H Q => t σ H fun x H' => ∃ k, x = .bl k ∧ Q k H'
theorem pt_cmpR {op : CmpOp} {r : R2} (ho : OpR X (compareOp op) r) (ha : PE X a ta) (hb : PE X b tb) (hm : behindInMarks op b = false) : PT X (.Compare a [op] [b] pos) (tTest (tOp r ta tb)) := by
  intro pins s σ H Q I h
  refine wpAny_isTrue_Compare1 (thn (ha pins s σ H _ I h) fun v s1 ⟨x, H1, I1, r1, q1⟩ => thn (hb pins s1 σ H1 _ I1 q1) fun u s2 ⟨y, H2, I2, r2, q2⟩ =>
    thn (ho pins s2 σ H2 x y v u _ I2 r1 r2 q2) fun c s3 ⟨z, H3, I3, r3, k, e, q3⟩ => ?_) hm
  subst e
  cases r3
  exact wpAny_truthy_bool ⟨H3, I3, q3⟩
theorem line63 : (sizeLine : Nat) < 2 ^ 63 := by rw [sizeLine_eq]; decide
theorem op_add_str : OpR X (binaryOp .Add) (fun x y H Q => ∃ i j, x = .str i ∧ y = .str j ∧ i.length + j.length ≤ sizeLine ∧ Q (.str (i ++ j)) H) := by
  intro pins s σ H x y v u Q I rx ry h
  obtain ⟨i, j, rfl, rfl, hz, q⟩ := h
  obtain ⟨t, rfl⟩ := rx
  obtain ⟨t', rfl⟩ := ry
  exact add_str (fun t' tk => ⟨.str (i ++ j), H, I.tok _, ⟨_, rfl⟩, q⟩) hz
/-! ### scalar builtins, by CallR -/
theorem vals1 {x : V} {us : List Value} (r : Vals [x] us) : ∃ u, us = [u] ∧ RelV x u := by
  cases r with
  | cons r1 r2 => cases r2; exact ⟨_, rfl, r1⟩
theorem vals2 {x y : V} {us : List Value} (r : Vals [x, y] us) : ∃ u w', us = [u, w'] ∧ RelV x u ∧ RelV y w' := by
  cases r with
  | cons r1 r2 =>
    cases r2 with
    | cons r3 r4 => cases r4; exact ⟨_, _, rfl, r1, r3⟩
end
end L2

namespace L2
open PySem PySem.Spec PyProof.Rows

/-! ### an instance, its attributes a map -/
structure ObjM (h : Heap) (x dx C : Addr) (mA : Str → Option Value) : Prop where
  obj : h.get? x = some (PySem.W.instObj C dx)
  ns : h.Ns1 dx mA
  ne : dx ≠ x

theorem lookIn_ns {h : Heap} {dx : Addr} {mA : Str → Option Value} (n : h.Ns1 dx mA) : ∃ od, h.get? dx = some od ∧ ∀ name, PySem.W.lookIn name od = some (mA name) := by
  obtain ⟨o, es, ep, ho, hd, hk, _, hm⟩ := n
  refine ⟨o, ho, fun name => ?_⟩
  have e := hm name
  unfold nsFind findBy at e
  rw [← Array.find?_toList] at e
  unfold PySem.W.lookIn
  rw [hd]
  dsimp only
  split
  · rename_i y q
    rw [q] at e
    exact congrArg some e
  · rename_i q
    rw [q] at e
    have a : es.toList.any (·.refKey) = false := by
      rw [List.any_eq_false]
      intro y hy
      obtain ⟨z, t, hkey⟩ := hk y (Array.mem_toList_iff.mp hy)
      simp [DictEntry.refKey, hkey]
    have a' : ¬ es.toList.any (·.refKey) = true := by rw [a]; exact Bool.false_ne_true
    rw [if_neg a']
    exact congrArg some e

theorem ObjM.look {h : Heap} {x dx C : Addr} {mA : Str → Option Value} (I : ObjM h x dx C mA) : ∃ od, PySem.W.InstAt h x (PySem.W.instObj C dx) C (some od) ∧ ∀ name, PySem.W.lookIn name od = some (mA name) :=
  let ⟨od, ho, hl⟩ := lookIn_ns I.ns
  ⟨od, ⟨I.obj, rfl, rfl, ho⟩, hl⟩

section
variable {prog : Program} {w : World} {A : Around} {E : Value → Shared → Prop} {s : Shared} {K : PySem.W.Frag} {x dx C f : Addr} {mA : Str → Option Value} {name : Str} {v : Value}

end

theorem RelO.some_of {v : V} {o : Option Value} (r : RelO (some v) o) : ∃ u, o = some u ∧ RelV v u := by
  cases o with
  | none => exact (show False from r).elim
  | some u => exact ⟨u, rfl, r⟩
section
variable {P : Program} {w : World} {H H' : Hp} {h h' : Heap} {a C dx : Addr} {fs fs' : List (Str × V)}
theorem ins_get (hok : HOk P w H h) (e : H a = some (.ins C dx fs)) : ∃ mA, ObjM h a dx C mA ∧ (∀ f, RelO (fs.lookup f) (mA f)) ∧ PySem.Within mA (fs.map (·.1)) ∧ fs.length ≤ 1000 ∧ H dx = some (.own a) := by
  obtain ⟨d, z, ne, ob, mA, n, r, q⟩ := (show ObjOk P w H h a (.ins C dx fs) from hok a _ e)
  exact ⟨mA, ⟨ob, n, ne⟩, r, q, z, d⟩
end

/-! ### what of the text a class must have -/
structure Cls (K : PySem.W.Frag) (C : Addr) : Prop where
  pg : PySem.W.plainGet K C Str.empty = true
  hd : PySem.W.hasDictIn K C = true
  po : PySem.W.plainOver K C = true
  sa : PySem.W.findIn K (.ref C) "__setattr__" = some (some (.builtin "object.__setattr__"))
theorem Cls.get {K : PySem.W.Frag} {C : Addr} (c : Cls K C) (f : Str) : PySem.W.plainGet K C f = true := c.pg
/-- a constant of the class -/
structure Con (K : PySem.W.Frag) (C : Addr) (f : Str) (v : V) (u : Value) : Prop where
  at_ : PySem.W.findIn K (.ref C) f = some (some u)
  rel : RelV v u
  get : PySem.W.specialIn K u "__get__" = some none
  cp : PySem.W.copiedNames.contains f = false
/-- a method: a plain def of the class or of one above it -/
structure Meth (K : PySem.W.Frag) (C : Addr) (m : Str) (f : Addr) : Prop where
  at_ : PySem.W.findIn K (.ref C) m = some (some (.ref f))
  fn : PySem.W.isFn K (.ref f) = true
  kp : PySem.W.keepIn K (.ref f) = true

section
variable {X : Cx} {pins : List (Addr × Obj)} {σ : St} {H : Hp} {s : Shared} {a C dx : Addr} {fs : List (Str × V)} {f : Str} {v : V} {A : Around} {E : Value → Shared → Prop}

/-- a new instance, tracked, without attributes -/
theorem Inv.made (I : Inv X pins σ H s) : Inv X pins σ (upd (upd H s.heap.objs.size (.own (s.heap.objs.size + 1))) (s.heap.objs.size + 1) (.ins C s.heap.objs.size []))
    { s with heap := (s.heap.push PySem.W.emptyDict).push (PySem.W.instObj C s.heap.objs.size) } := by
  have e1 : (s.heap.push PySem.W.emptyDict).get? s.heap.objs.size = some PySem.W.emptyDict := Heap.get?_push_size s.heap rfl
  have e2 : ((s.heap.push PySem.W.emptyDict).push (PySem.W.instObj C s.heap.objs.size)).get? (s.heap.objs.size + 1) = some (PySem.W.instObj C s.heap.objs.size) := by
    have := Heap.get?_push_size (s.heap.push PySem.W.emptyDict) (o := PySem.W.instObj C s.heap.objs.size) rfl
    rwa [Heap.size_push] at this
  have e3 : (s.heap.push PySem.W.emptyDict).Ns s.heap.objs.size (fun _ => none) := ⟨PySem.W.emptyDict, #[], _, e1, rfl, (fun e he => absurd he (by simp)), fun _ => rfl⟩
  have I1 := I.laid (a := s.heap.objs.size) (o := .own (s.heap.objs.size + 1)) (h' := s.heap.push PySem.W.emptyDict) (t' := s.toks) (fun b u q => Heap.get?_push_of_some _ q) (Nat.le_refl _) ⟨_, e1⟩
  refine I1.laid (a := s.heap.objs.size + 1) (o := .ins C s.heap.objs.size []) (t' := s.toks) (fun b u q => Heap.get?_push_of_some _ q) (Nat.le_of_eq (Heap.size_push _ _)) ?_
  have ne : s.heap.objs.size ≠ s.heap.objs.size + 1 := Nat.ne_of_lt (Nat.lt_succ_self _)
  refine ⟨by rw [upd_ne ne, upd_same], Nat.zero_le _, ne, e2, fun _ => none, (Heap.Ns1.of_empty e3).at fun o q => Heap.get?_push_of_some _ q, fun _ => True.intro, fun y hy => absurd rfl hy⟩

end

section
variable {X : Cx} {o e value : Expr} {f : Str} {pos pos' tpos : Pos} {ta tv : TE}
end

/-! ### isinstance -/
section
variable {X : Cx} {pins : List (Addr × Obj)} {σ : St} {H : Hp} {s : Shared} {A : Around} {E : Value → Shared → Prop} {Q : Value → Shared → Prop} {c : Value} {b : Bool}
/-- the type of a value, as the fragment's deciders take it; for an instance its class -/
inductive TyOf (K : PySem.W.Frag) (H : Hp) : V → Value → Prop where
  | non : TyOf K H .non (.type "NoneType")
  | bl (x : Bool) : TyOf K H (.bl x) (.type "bool")
  | int (i : Int) : TyOf K H (.int i) (.type "int")
  | str (x : Str) : TyOf K H (.str x) (.type "str")
  | flt (x : UInt64) : TyOf K H (.flt x) (.type "float")
  | lst {a : Addr} {xs : List V} (e : H a = some (.lst xs)) : TyOf K H (.ref a) (.type "list")
  | frz {a : Addr} {o : Obj} {xs : List V} (e : H a = some (.frz o (.lst xs))) : TyOf K H (.ref a) (.type "list")
  | tup {a : Addr} {xs : List V} (e : Rd H a (.tup xs)) : TyOf K H (.ref a) (.type "tuple")
  | dK {a : Addr} {kvs : List (Key × V)} (e : H a = some (.dK kvs)) : TyOf K H (.ref a) (.type "dict")
  | dT {a : Addr} {kvs : List (List Key × V)} (e : H a = some (.dT kvs)) : TyOf K H (.ref a) (.type "dict")
  | ins {a C dx : Addr} {fs : List (Str × V)} (e : H a = some (.ins C dx fs)) (cl : Cls K C) (ha : PySem.W.findIn K (.ref C) "__class__" = some (some (.builtin "object.__class__")))
      (hn : PySem.W.specialIn K (.builtin "object.__class__") "__get__" = some (some (.builtin "getset_descriptor.__get__"))) (htk : PySem.W.takesIn K (.builtin "object.__class__") = some true)
      (hm : PySem.W.mroIn K C (.type "object") = some true) : TyOf K H (.ref a) (.ref C)
/-- isinstance(x, c) for one class c, a built-in or an own one: kitOne's answer -/
theorem isinst_ok {x : V} {u t : Value} (I : Inv X pins σ H s) (rx : RelV x u) (ty : TyOf X.K H x t) (e : PySem.W.kitOne X.K t c = some b) (h : ∀ tk, Q (.bool b) { s with toks := tk }) :
    wpAny (model X.prog X.w) A (call (.builtin "isinstance") [u, c]) Q E s := by
  cases ty with
  | non => cases (show u = Value.none from rx); exact PySem.W.kia_one PySem.W.kitx_none I.kIn True.intro e (fun z => nomatch z) h
  | bl y => cases (show u = Value.bool y from rx); exact PySem.W.kia_one PySem.W.kitx_bool I.kIn True.intro e (fun z => nomatch z) h
  | int i => obtain ⟨t, q⟩ := (show ∃ t, u = Value.int i t from rx); cases q; exact PySem.W.kia_one PySem.W.kitx_int I.kIn True.intro e (fun z => nomatch z) h
  | str y => obtain ⟨t, q⟩ := (show ∃ t, u = Value.str y t from rx); cases q; exact PySem.W.kia_one PySem.W.kitx_str I.kIn True.intro e (fun z => nomatch z) h
  | flt y => obtain ⟨t, q⟩ := (show ∃ t, u = Value.float y t from rx); cases q; exact PySem.W.kia_one PySem.W.kitx_float I.kIn True.intro e (fun z => nomatch z) h
  | @lst a xs ea =>
    cases (show u = Value.ref a from rx)
    obtain ⟨_, _, n, _, h1⟩ := (show ObjOk X.prog X.w H s.heap a (.lst xs) from I.hok a _ ea)
    exact PySem.W.kia_one PySem.W.kitx_list I.kIn ⟨_, h1, rfl⟩ e (fun z => nomatch z) h
  | @frz a ob xs ea =>
    cases (show u = Value.ref a from rx)
    obtain ⟨_, _, _, n, _, h1⟩ := (show ObjOk X.prog X.w H s.heap a (.frz ob (.lst xs)) from I.hok a _ ea)
    exact PySem.W.kia_one PySem.W.kitx_list I.kIn ⟨_, h1, rfl⟩ e (fun z => nomatch z) h
  | @tup a xs ea =>
    cases (show u = Value.ref a from rx)
    obtain ⟨_, _, _, p⟩ := (show ObjOk X.prog X.w H s.heap a (.tup xs) from ea.ok I.hok)
    obtain ⟨o, h1, h2, _⟩ := p
    exact PySem.W.kia_one PySem.W.kitx_tuple I.kIn ⟨o, h1, h2⟩ e (fun z => nomatch z) h
  | @dK a kvs ea =>
    cases (show u = Value.ref a from rx)
    obtain ⟨_, _, vs, _, p⟩ := (show ObjOk X.prog X.w H s.heap a (.dK kvs) from I.hok a _ ea)
    obtain ⟨o, es, ep, h1, h2, _⟩ := p
    exact PySem.W.kia_one PySem.W.kitx_dict I.kIn ⟨o, h1, h2.1⟩ e (fun z => nomatch z) h
  | @dT a kvs ea =>
    cases (show u = Value.ref a from rx)
    obtain ⟨_, _, xs, _, o, es, ep, h1, h2, _⟩ := (show ObjOk X.prog X.w H s.heap a (.dT kvs) from I.hok a _ ea)
    exact PySem.W.kia_one PySem.W.kitx_dict I.kIn ⟨o, h1, h2.1⟩ e (fun z => nomatch z) h
  | @ins a C dx fs ea cl ha hn htk hm =>
    cases (show u = Value.ref a from rx)
    obtain ⟨mA, O, _⟩ := ins_get I.hok ea
    obtain ⟨od, J, _⟩ := O.look
    exact PySem.W.kia_one (PySem.W.kitx_own (cl.get _) cl.hd ha hn htk hm) I.kIn J e (fun z => nomatch z) h
end
end L2

namespace L2
open PySem PySem.Spec PyProof.Rows

/-! ### room -/
structure Room (k : Nat) (A : Around) : Prop where
  hd : A.handled = none
  dp : A.depth + 3 * k + 5 < recursionLimit
  un : A.units + 16 * k + 200 < cLine
theorem Room.mono {j k : Nat} {A : Around} (r : Room k A) (h : j ≤ k) : Room j A := ⟨r.hd, by have := r.dp; omega, by have := r.un; omega⟩
theorem Room.deeper {k : Nat} {A : Around} (r : Room (k + 1) A) (env : Env) : Room k (A.deeper env) :=
  ⟨r.hd, by have := r.dp; show A.depth + 1 + 3 * k + 5 < _; omega, by have := r.un; show A.units + 3 + 16 * k + 200 < _; omega⟩
theorem Room.in1 {k : Nat} {A : Around} (r : Room (k + 1) A) : Room k A.in1 :=
  ⟨r.hd, by have := r.dp; show A.depth + 3 * k + 5 < _; omega, by have := r.un; show A.units + 1 + 16 * k + 200 < _; omega⟩
theorem Room.depth {k : Nat} {A : Around} (r : Room k A) : A.depth < recursionLimit := by have := r.dp; omega
theorem Room.units {k : Nat} {A : Around} (r : Room k A) : A.units + 64 < cLine := by have := r.un; omega
/-! ### argument lists and displays -/
def tNil : TA := fun _ H Q => Q [] H
def tCons (ta : TE) (tr : TA) : TA := fun σ H Q => ta σ H fun x H1 => tr σ H1 fun xs H2 => Q (x :: xs) H2
section
variable {X : Cx} {e : Expr} {es : List Expr} {te : TE} {t : TA} {pos : Pos}
theorem pa_nil : PA X [] tNil := fun _ _ _ _ H Q I h => Calls.spliced_nil ⟨[], H, I, .nil, h⟩
theorem pa_cons (ha : PE X e te) (hr : PA X es t) (hs : starEach (e :: es) X.env = (false, eval e X.env) :: starEach es X.env := by rfl) : PA X (e :: es) (tCons te t) := by
  intro pos pins s σ H Q I h
  rw [hs]
  show wpAny _ _ (spliced ((false, eval e X.env) :: backTo pos (starEach es X.env))) _ _ s
  refine Calls.spliced_cons (thn (ha pins s σ H _ I h) fun u s1 ⟨x, H1, I1, r1, q1⟩ => ?_)
  exact thn (hr pos pins s1 σ H1 _ I1 q1) fun us s2 ⟨xs, H2, I2, r2, q2⟩ => ⟨x :: xs, H2, I2, .cons r1 r2, q2⟩

/-- a tuple, a list of written items -/
def tTup (t : TA) : TE := fun σ H Q => t σ H fun xs H1 => xs.length ≤ sizeLine ∧ ∀ p, H1 p = none → Q (.ref p) (upd H1 p (.tup xs))
def tLst (t : TA) : TE := fun σ H Q => t σ H fun xs H1 => xs.length ≤ sizeLine ∧ ∀ p, H1 p = none → Q (.ref p) (upd H1 p (.lst xs))
theorem pe_tup {x1} (h : PA X es t) : PE X (.Tuple es x1 pos) (tTup t) := by
  intro pins s σ H Q I hq
  refine wpAny_Tuple_spliced (thn (h pos pins s σ H _ I hq) fun us s1 ⟨xs, H1, I1, r, z, q⟩ => ⟨by rw [← r.length]; exact z, ?_⟩)
  have hf : H1 s1.heap.objs.size = none := I1.hok.fresh (Nat.le_refl _)
  refine ⟨.ref s1.heap.objs.size, upd H1 s1.heap.objs.size (.tup xs), I1.laid (t' := s1.toks) (fun b u e => Heap.get?_push_of_some _ e) (Nat.le_refl _) ?_, rfl, q _ hf⟩
  exact ⟨z, us, r, ⟨_, Heap.get?_push_size _ rfl, rfl, _, rfl⟩⟩
theorem pe_lst (h : PA X es t) : PE X (.List es pos) (tLst t) := by
  intro pins s σ H Q I hq
  refine wpAny_List_spliced (thn (h pos pins s σ H _ I hq) fun us s1 ⟨xs, H1, I1, r, z, q⟩ => ⟨by rw [← r.length]; exact z, ?_⟩)
  have hf : H1 s1.heap.objs.size = none := I1.hok.fresh (Nat.le_refl _)
  refine ⟨.ref s1.heap.objs.size, upd H1 s1.heap.objs.size (.lst xs), I1.laid (t' := s1.toks) (fun b u e => Heap.get?_push_of_some _ e) (Nat.le_refl _) ?_, rfl, q _ hf⟩
  exact ⟨z, us, 0, r, Heap.get?_push_size _ rfl⟩
end

/-! ### what a def promises -/
/-- a def's promise: the bound arguments in the parameters' order, the heap, the wanted end, the wanted exception -/
abbrev Sp := List V → Hp → VK → XK → Prop
/-- how an exception lies behind a call (file 08 gives it): the callers' frames, abstract heap and state ahead of the call, the wish, the exception, the state -/
abbrev CXT := List Env → Hp → Shared → XK → Value → Shared → Prop

/-- the state at a call -/
structure Env0 (P : Program) (w : World) (K : PySem.W.Frag) (mg : Str → Option Value) (base : Heap) (A : Around) (outer : List Env) (s : Shared) (H : Hp) : Prop where
  frames : A.frames = some outer
  mod : Mod K mg base
  bs : ∀ b o, base.get? b = some o → s.heap.get? b = some o ∧ Sb K H b o
  bsz : base.objs.size ≤ s.heap.objs.size
  funs : s.heap.FunFrames base outer
  frf : ∀ b ∈ frs outer, H b = none
  hok : HOk P w H s.heap
  bare : AllBare s.gens
/-- a call's end -/
def CE (outer : List Env) (P : Program) (w : World) (H : Hp) (s : Shared) (Q : VK) (u : Value) (s' : Shared) : Prop :=
  ∃ v H', s'.os = s.os ∧ AllBare s'.gens ∧ Un (frs outer) [] H H' s.heap s'.heap ∧ HOk P w H' s'.heap ∧ RelV v u ∧ Q v H'
def CR (CX : CXT) (outer : List Env) (P : Program) (w : World) (H : Hp) (s : Shared) (Q : VK) (E : XK) (r : Result) (s' : Shared) : Prop :=
  match r with
  | .ok (.ret u) => CE outer P w H s Q u s'
  | .ok _ => False
  | .error e => CX outer H s E e s'
structure FnOk (P : Program) (w : World) (K : PySem.W.Frag) (mg : Str → Option Value) (base : Heap) (CX : CXT) (k : Nat) (f : Addr) (fd : FuncData) (ps : List Str) (sp : Sp) : Prop where
  len : ∀ vs H Q E, sp vs H Q E → vs.length = ps.length
  run : ∀ (A : Around) (outer : List Env) (s : Shared) (H : Hp) (args : Args) (us : List Value) (vs : List V) (Q : VK) (E : XK), Room k A → Env0 P w K mg base A outer s H → BindsTo s fd args (ps.zip us) → Vals vs us → sp vs H Q E →
    codeAny (model P w) A (.call (.ref f) args) (CR CX outer P w H s Q E) s
theorem FnOk.mono {P : Program} {w : World} {K : PySem.W.Frag} {mg : Str → Option Value} {base : Heap} {CX : CXT} {j k : Nat} {f : Addr} {fd : FuncData} {ps : List Str} {sp : Sp} (F : FnOk P w K mg base CX j f fd ps sp) (h : j ≤ k) :
    FnOk P w K mg base CX k f fd ps sp := ⟨F.len, fun A outer s H args us vs Q E hr => F.run A outer s H args us vs Q E (hr.mono h)⟩
/-- a weaker promise -/
theorem FnOk.imp {P : Program} {w : World} {K : PySem.W.Frag} {mg : Str → Option Value} {base : Heap} {CX : CXT} {k : Nat} {f : Addr} {fd : FuncData} {ps : List Str} {sp sp' : Sp} (F : FnOk P w K mg base CX k f fd ps sp)
    (h : ∀ vs H Q E, sp' vs H Q E → sp vs H Q E) : FnOk P w K mg base CX k f fd ps sp' :=
  ⟨fun vs H Q E q => F.len vs H Q E (h _ _ _ _ q), fun A outer s H args us vs Q E hr he hb hv hs => F.run A outer s H args us vs Q E hr he hb hv (h _ _ _ _ hs)⟩

theorem Env0.in1 {P : Program} {w : World} {K : PySem.W.Frag} {mg : Str → Option Value} {base : Heap} {A : Around} {outer : List Env} {s : Shared} {H : Hp} (e : Env0 P w K mg base A outer s H) :
    Env0 P w K mg base A.in1 outer s H := ⟨e.frames, e.mod, e.bs, e.bsz, e.funs, e.frf, e.hok, e.bare⟩

section
variable {X : Cx} {pins : List (Addr × Obj)} {σ : St} {H : Hp} {s s' : Shared}
/-- from a body: what a callee wants -/
theorem Inv.env0 (I : Inv X pins σ H s) : Env0 X.prog X.w X.K X.mg X.base X.A X.stack s H :=
  ⟨I.ok.frames, I.ok.mod, I.bs, Nat.le_trans I.ok.bsz I.sz, I.stack, I.stkFree, I.hok, I.bare⟩
/-- behind a call -/
theorem Inv.after {Q : VK} {u : Value} (I : Inv X pins σ H s) (h : CE X.stack X.prog X.w H s Q u s') : EP X pins σ Q u s' := by
  obtain ⟨v, H', os, bare, un, hok, r, q⟩ := h
  obtain ⟨hh, g, d, t, os'⟩ := s'
  obtain rfl : os' = s.os := os
  exact ⟨v, H', I.call (h' := hh) (g' := g) (d' := d) (t' := t) (ch := []) un hok bare (fun b z => absurd z (by simp)), r, q⟩
end

/-- how the parameters are bound: us the positional arguments, kw the keywords' values by name, ds the defaults that fill up -/
def Binds (K : PySem.W.Frag) (fd : FuncData) (ps : List Str) (ds : List Value) : Prop :=
  ∀ (s : Shared) (us : List Value), K.In s.heap → (us ++ ds).length = ps.length → BindsTo s fd ⟨us, []⟩ (ps.zip (us ++ ds))
/-- every parameter is given -/
theorem Binds.all {K : PySem.W.Frag} {fd : FuncData} {ps : List Str} (h : ∀ us : List Value, us.length = ps.length → bindArgs fd ⟨us, []⟩ = pure (ps.zip us)) : Binds K fd ps [] := fun s us _ hl => by
  rw [List.append_nil] at hl ⊢
  exact .of_eq (h us hl)

section
variable {X : Cx} {CX : CXT} {k : Nat} {f C : Addr} {fd : FuncData} {ps : List Str} {sp : Sp} {dvs : List V} {ds : List Value} {E : XK} {x m : Str} {p pos apos : Pos} {e o : Expr} {es : List Expr} {ta : TE} {t : TA}

/-- what a class must have to be made -/
structure Mk (K : PySem.W.Frag) (C f : Addr) : Prop where
  makes : PySem.W.makesIn K C = true
  init : PySem.W.findIn K (.ref C) "__init__" = some (some (.ref f))
  fn : PySem.W.isFn K (.ref f) = true
  kp : PySem.W.keepIn K (.ref C) = true

end

section
variable {X : Cx} {CX : CXT} {k : Nat} {f C : Addr} {fd : FuncData} {ps ks : List Str} {sp : Sp} {E : XK} {x m : Str} {p pos apos kpos : Pos} {e o : Expr} {es : List Expr} {kws : List Keyword} {te ta : TE} {t tk : TA} {nm : Option Str}
/-- how a call with keywords binds: g puts the positional values us and the keywords' values ws (names ks) in the parameters' order, defaults among them -/
structure KBinds (K : PySem.W.Frag) (fd : FuncData) (ps ks : List Str) (g : List Value → List Value → List Value) (gV : List V → List V → List V) : Prop where
  to : ∀ (s : Shared) (us ws : List Value), K.In s.heap → (g us ws).length = ps.length → BindsTo s fd ⟨us, ks.zip ws⟩ (ps.zip (g us ws))
  rel : ∀ {vs : List V} {us : List Value} {zs : List V} {ws : List Value}, Vals vs us → Vals zs ws → Vals (gV vs zs) (g us ws)
variable {g : List Value → List Value → List Value} {gV : List V → List V → List V}
end

/-! ### a def's body keeps its promise -/
/-- names: the parameters first -/
structure FnScope (N P : List Str) (sc : Scope) : Prop where
  kind : sc.kind = .function
  co : sc.isCoroutine = false
  gen : sc.isGenerator = false
  nd : N.Nodup
  pre : N.take P.length = P
  par : ∀ x ∈ P, sc.names.lookup x = some .local ∨ sc.names.lookup x = some .cell
  nofree : ∀ y ∈ sc.names, y.2 ≠ .free

theorem bindL_out {kindOf : Str → Option NameKind} {x : Str} : ∀ {binds : List (Str × Value)} {m : Str → Option Value}, (∀ v, (x, v) ∉ binds) → bindL kindOf binds m x = m x
  | [], _, _ => rfl
  | (n, v) :: r, m, h => by
    unfold bindL
    rw [bindL_out fun w hw => h w (List.mem_cons_of_mem _ hw)]
    split
    · have : x ≠ n := by rintro rfl; exact h v List.mem_cons_self
      simp [this]
    · rfl
theorem bindC_out {kindOf : Str → Option NameKind} {x : Str} : ∀ {binds : List (Str × Value)} {m : Str → Option Value}, (∀ v, (x, v) ∉ binds) → bindC kindOf binds m x = m x
  | [], _, _ => rfl
  | (n, v) :: r, m, h => by
    unfold bindC
    rw [bindC_out fun w hw => h w (List.mem_cons_of_mem _ hw)]
    split
    · rfl
    · have : x ≠ n := by rintro rfl; exact h v List.mem_cons_self
      simp [this]
theorem bindL_get {kindOf : Str → Option NameKind} {x : Str} {v : Value} : ∀ {P : List Str} {vs : List Value} {i : Nat} {m : Str → Option Value}, P.Nodup → P[i]? = some x → vs[i]? = some v → kindOf x = some .local →
    bindL kindOf (P.zip vs) m x = some v
  | [], _, _, _, _, h, _, _ => by simp at h
  | _ :: _, [], _, _, _, _, h, _ => by simp at h
  | p :: P, w :: vs, 0, m, nd, h1, h2, hk => by
    simp at h1 h2; subst h1; subst h2
    show bindL kindOf ((p, w) :: P.zip vs) m p = _
    unfold bindL
    rw [bindL_out fun v hv => (List.nodup_cons.mp nd).1 (List.of_mem_zip hv).1, if_pos hk]
    simp
  | p :: P, w :: vs, i + 1, m, nd, h1, h2, hk => by
    show bindL kindOf ((p, w) :: P.zip vs) m x = _
    unfold bindL
    exact bindL_get (i := i) (List.nodup_cons.mp nd).2 (by simpa using h1) (by simpa using h2) hk
theorem bindC_get {kindOf : Str → Option NameKind} {x : Str} {v : Value} : ∀ {P : List Str} {vs : List Value} {i : Nat} {m : Str → Option Value}, P.Nodup → P[i]? = some x → vs[i]? = some v → kindOf x ≠ some .local →
    bindC kindOf (P.zip vs) m x = some v
  | [], _, _, _, _, h, _, _ => by simp at h
  | _ :: _, [], _, _, _, _, h, _ => by simp at h
  | p :: P, w :: vs, 0, m, nd, h1, h2, hk => by
    simp at h1 h2; subst h1; subst h2
    show bindC kindOf ((p, w) :: P.zip vs) m p = _
    unfold bindC
    rw [bindC_out fun v hv => (List.nodup_cons.mp nd).1 (List.of_mem_zip hv).1, if_neg hk]
    simp
  | p :: P, w :: vs, i + 1, m, nd, h1, h2, hk => by
    show bindC kindOf ((p, w) :: P.zip vs) m x = _
    unfold bindC
    exact bindC_get (i := i) (List.nodup_cons.mp nd).2 (by simpa using h1) (by simpa using h2) hk

/-- the names' values at the entry -/
def start (N : List Str) (vs : List V) : St := vs.map some ++ List.replicate (N.length - vs.length) none

/-- the context of a def's body, at its entry; an exception leaves the frame, then lies as CX says -/
def cxOf (CX : CXT) (P : Program) (w : World) (K : PySem.W.Frag) (mg : Str → Option Value) (base : Heap) (N : List Str) (qual : Str) (scope : Scope) (f : Addr) (cd : Value) (A : Around) (outer : List Env) (s : Shared) (H : Hp) (E : XK) : Cx where
  prog := P
  w := w
  K := K
  mg := mg
  base := base
  A := A.deeper (envOfC qual scope s.heap.objs.size f cd)
  N := N
  s₀ := s
  H₀ := H
  env := envOfC qual scope s.heap.objs.size f cd
  outer := outer
  stack := envOfC qual scope s.heap.objs.size f cd :: outer
  ex := []
  calm := true
  fn := fun _ => true
  pn := []
  xe := fun e s' => wpAny (model P w) (A.deeper (envOfC qual scope s.heap.objs.size f cd)) (leaving (envOfC qual scope s.heap.objs.size f cd) e) (fun _ s'' => CX outer H s E e s'') (fun e' s'' => CX outer H s E e' s'') s'

theorem cell_has {sc : Scope} {n : Nat} {x : Str} (h : sc.names.lookup x = some .cell) : ∃ c, (cellsFrom n sc.names []).lookup x = some c := by
  have q := PySem.W.cellsFrom_some sc.names n [] (.inl h)
  exact Option.isSome_iff_exists.mp q

theorem inv_start {CX : CXT} {P : Program} {w : World} {K : PySem.W.Frag} {mg : Str → Option Value} {base : Heap} {N ps : List Str} {qual : Str} {scope : Scope} {f : Addr} {cd : Value} {A : Around} {outer : List Env} {s s1 : Shared} {H : Hp} {E : XK} {us : List Value} {vs : List V}
    (S : FnScope N ps scope) (hd : A.handled = none) (e0 : Env0 P w K mg base A outer s H) (hl : vs.length = ps.length) (r : Vals vs us)
    (x : InCallC s s.heap.objs.size (bindL (envOfC qual scope s.heap.objs.size f cd).kindOf (ps.zip us) fun _ => none) (cellsFrom (s.heap.objs.size + 1) scope.names []) (bindC (envOfC qual scope s.heap.objs.size f cd).kindOf (ps.zip us) fun _ => none) s1) :
    Inv (cxOf CX P w K mg base N qual scope f cd A outer s H E) [] (start N vs) H s1 := by
  have hpl : ps.length ≤ N.length := by have := congrArg List.length S.pre; rw [List.length_take] at this; omega
  obtain ⟨h1, tk, rfl, hk⟩ := x.done
  have noA : ∀ b : Addr, b ∉ (cxOf CX P w K mg base N qual scope f cd A outer s H E).ex := fun b z => absurd (show b ∈ ([] : List Addr) from z) (by simp)
  refine ⟨⟨e0.mod, S.kind, rfl, rfl, Nat.le_refl _, fun y z c h1 h2 => ?_, fun y hy => ?_, fun y c _ h => ?_, fun _ => hd, Around.frames_deeper e0.frames, .inr ⟨rfl, rfl⟩, fun b z => absurd z (noA b), e0.bs, e0.bsz, fun b _ _ => noA b, fun b z => absurd z (noA b), e0.funs, e0.frf⟩,
    rfl, e0.bare, Un.kept hk, ⟨_, x.toInCall.ns, fun i y v h1 h2 h3 => ?_⟩, fun y c h => ⟨_, x.cell y c h⟩, e0.hok.fresh (Nat.le_refl _), fun y c h => ?_, fun p hp => absurd (show p ∈ ([] : List (Addr × Obj)) from hp) (by simp), e0.hok.kept hk, ?_⟩
  · exact name_of_addr x.apart (PySem.mem_of_lookup h1) (PySem.mem_of_lookup h2)
  · have hy : scope.names.lookup y = some .cell ∨ scope.names.lookup y = some .free := hy
    rcases hy with hy | hy
    · exact cell_has hy
    · exact absurd rfl (S.nofree _ (PySem.mem_of_lookup hy))
  · exact Nat.le_of_lt (x.above y c (PySem.mem_of_lookup h))
  · have hi : i < vs.length := by
      unfold start at h2
      by_cases hi : i < vs.length
      · exact hi
      · rw [List.getElem?_append_right (by simpa using hi)] at h2
        rw [List.getElem?_replicate] at h2
        split at h2 <;> cases h2
    have ha : vs[i]? = some v := by
      unfold start at h2
      rw [List.getElem?_append_left (by simpa using hi), List.getElem?_map] at h2
      cases e : vs[i]? with
      | none => rw [e] at h2; cases h2
      | some a => rw [e] at h2; cases h2; rfl
    obtain ⟨u, hu, rv⟩ := r.get ha
    have hp : ps[i]? = some y := by
      rw [← S.pre, List.getElem?_take_of_lt (by omega)]; exact h1
    have ndP : ps.Nodup := by rw [← S.pre]; exact S.nd.sublist (List.take_sublist _ _)
    refine ⟨u, rv, ?_⟩
    rcases S.par y (List.mem_of_getElem? hp) with k | k
    · exact .inl ⟨k, bindL_get ndP hp hu k⟩
    · obtain ⟨c, e⟩ := cell_has (n := s.heap.objs.size + 1) k
      refine .inr ⟨.inl k, c, e, ?_⟩
      have q := x.cell y c e
      rw [bindC_get ndP hp hu (by show scope.names.lookup y ≠ _; rw [k]; decide)] at q
      exact q
  · exact e0.hok.fresh (Nat.le_of_lt (x.above y c (PySem.mem_of_lookup h)))
  · unfold start
    show _ = N.length
    rw [List.length_append, List.length_map, List.length_replicate]
    omega

/-- THE RULE: a def (or a method) of the text, by its body. The body's reading t is chosen for each entry; it is run at the parameters' values -/
theorem fn_of {CX : CXT} {P : Program} {w : World} {K : PySem.W.Frag} {mg : Str → Option Value} {base : Heap} {k : Nat} {f : Addr} {name qual : Str} {params : Arguments} {body : List Stmt} {scope : Scope} {dV kV doc pm cdv ct oc : Value} {an od : Option Addr}
    {osl : Array (Option Value)} {N ps : List Str} {sp : Sp} (lk : K.lookup f = some ⟨oc, od, .func (PySem.W.fnOf name qual params body scope dV kV doc pm an cdv ct), osl⟩) (hcd : PySem.W.codeIn K cdv qual = true) (S : FnScope N ps scope)
    (len : ∀ vs H Q E, sp vs H Q E → vs.length = ps.length)
    (hbody : ∀ (A : Around) (outer : List Env) (s : Shared) (H : Hp) (vs : List V) (Q : VK) (E : XK), Room k (A.deeper (envOfC qual scope s.heap.objs.size f cdv)) → sp vs H Q E →
      ∃ t, PSs (cxOf CX P w K mg base N qual scope f cdv A outer s H E) body t ∧ t { nx := fun _ H' => Q .non H', rt := Q } (start N vs) H) :
    FnOk P w K mg base CX (k + 1) f (PySem.W.fnOf name qual params body scope dV kV doc pm an cdv ct) ps sp := by
  refine ⟨len, fun A outer s H args us vs Q E hr e0 hb r hsp => ?_⟩
  have hl := len _ _ _ _ hsp
  have KX : K.In s.heap := e0.mod.kin.keeps fun b o e => (e0.bs b o e).1
  have lim : s.heap.NoLimit := e0.mod.nolimit.keeps fun b o e => (e0.bs b o e).1
  have hkind : ∀ y ∈ ps.zip us, scope.names.lookup y.1 = some .local ∨ (scope.names.lookup y.1 = some .cell ∧ ((cellsFrom (s.heap.objs.size + 1) scope.names []).lookup y.1).isSome = true) := fun ⟨n, v⟩ hy => by
    rcases S.par n (List.of_mem_zip hy).1 with q | q
    · exact .inl q
    · exact .inr ⟨q, PySem.W.cellsFrom_some _ _ _ (.inl q)⟩
  refine codeAny_call_function hr.depth (KX _ _ lk) rfl S.co S.gen rfl (PySem.W.codeRec_of KX hcd) (hb _ _ _ _ ?_)
  refine wpAny_newFunctionEnv_cells S.kind hkind fun env he s1 x => ?_
  subst he
  refine ⟨lim.keeps x.toInCall.keep, codeAny_func ?_⟩
  obtain ⟨t, ht, hq⟩ := hbody A outer s H vs Q E (hr.deeper _) hsp
  have I : Inv (cxOf CX P w K mg base N qual scope f cdv A outer s H E) [] (start N vs) H s1 := inv_start S hr.hd e0 hl r x
  refine wpAny_mono (ht [] s1 (start N vs) H _ I hq) (fun fl s' hs => ?_) fun e s' hs => hs
  have fin : ∀ {σ' : St} {H' : Hp} {v : V} {u : Value}, Inv (cxOf CX P w K mg base N qual scope f cdv A outer s H E) [] σ' H' s' → RelV v u → Q v H' → CE outer P w H s Q u s' :=
    fun {σ' H' v u} J rv q => ⟨v, H', J.os, J.bare, J.base, J.hok, rv, q⟩
  cases fl with
  | ret u =>
    obtain ⟨v, σ', H', J, rv, q⟩ := hs
    exact fin J rv q
  | next =>
    obtain ⟨σ', H', J, q⟩ := hs
    exact fin (v := V.non) (u := Value.none) J rfl q
  | brk =>
    obtain ⟨_, _, _, q⟩ := hs
    exact False.elim q
  | cont =>
    obtain ⟨_, _, _, q⟩ := hs
    exact False.elim q
end L2

namespace L2
open PySem PySem.Spec PyProof.Rows
section
variable {X : Cx} {x : Str} {p pos : Pos} {e : Expr} {es : List Expr} {t : TA} {id T : String} {r : List V → Hp → VK → Prop}

def tCB (r : List V → Hp → VK → Prop) (t : TA) : TE := fun σ H Q => t σ H fun vs H1 => r vs H1 Q
/-- f(e, ..), f a built-in function -/
theorem pe_callB (hc : CallR X (.builtin id) r) (hg : Gl X x) (hm : X.mg x = none) (hv : bootBuiltins x = some (.builtin id)) (ha : PA X (e :: es) t) (hn : x ≠ "__name__" := by decide) (hdb : (x == ("__debug__" : Str)) = false := by decide)
    (he : starEach (e :: es) X.env = (false, eval e X.env) :: starEach es X.env := by rfl) (hpl : (backTo pos (starEach es X.env)).any (·.1) = false := by rfl) : PE X (.Call (.Name x p) (e :: es) [] pos) (tCB r t) := by
  intro pins s σ H Q I h
  refine wpAny_Call_Name_kw (ld_blt I hg hm hv ?_ hn hdb)
  exact PyProof.Rows.callWith_builtin1 (thn (ha pos pins s σ H _ I h) fun us s1 ⟨vs, H1, I1, r1, q1⟩ => hc pins s1 σ H1 vs us Q I1 r1 q1) he hpl
end
end L2

namespace HT
open PySem PyProof.Rows

section
open PySem.SeqAt
open PySem.AutoSeq1 (wpAny_loadPart')
open PySem.MeetsSeq PySem.MeetsSeq2 PySem.MeetsSeq3

end

section
variable {prog : Program} {w : World} {A : Around} {E : Value → Shared → Prop} {s : Shared}

/-- t + u, t not empty -/
theorem cat_tup {t b : Addr} {vs ws : List Value} {Q : Value → Shared → Prop} (ht : IsTup s.heap t vs.toArray) (hb : IsTup s.heap b ws.toArray) (hv : vs ≠ [])
    (h1 : ws = [] → Q (.ref t) s) (h2 : ws ≠ [] → Q (.ref s.heap.objs.size) { s with heap := s.heap.push { cls := .type "tuple", data := .seq (vs ++ ws).toArray } })
    (hsz : vs.length + ws.length ≤ sizeLine) : wpAny (model prog w) A (binaryOp .Add (.ref t) (.ref b)) Q E s := by
  obtain ⟨⟨cls, dd, data, sl⟩, ho, hc, n, hd⟩ := id ht
  obtain ⟨⟨cls2, dd2, data2, sl2⟩, ho2, hc2, n2, hd2⟩ := id hb
  simp only at hc hd hc2 hd2
  subst hc hd hc2 hd2
  have e : vs.toArray ++ ws.toArray = (vs ++ ws).toArray := by simp
  by_cases hw : ws = []
  · exact concat_meets ⟨_, ho, rfl⟩ ⟨_, ho2, rfl⟩ noFill_tuple_add seq_tuple_add PySem.F.slot_tuple_add PySem.F.entry_tuple_add (PySem.F.args_tuple_add_2 _ _)
      (tuple_addW1 t b vs.toArray ws.toArray n n2 dd dd2 sl sl2 (by simpa using hv) (by simp [hw])) ⟨ho, ho2, h1 hw⟩
  · refine concat_meets ⟨_, ho, rfl⟩ ⟨_, ho2, rfl⟩ noFill_tuple_add seq_tuple_add PySem.F.slot_tuple_add PySem.F.entry_tuple_add (PySem.F.args_tuple_add_2 _ _)
      (tuple_addW2 t b vs.toArray ws.toArray n n2 dd dd2 sl sl2 (by simpa using hv) (by simpa using hw) (by rw [List.size_toArray, List.size_toArray]; exact hsz)) ⟨ho, ho2, ?_⟩
    rw [e]
    exact h2 hw

/-! ### t[a:b], not the whole -/
/-- a slice's bound as a place among n (d where it is left out) -/
def sIx (n d : Nat) : Option Int → Nat
  | none => d
  | some v => if v < 0 then (v + (n : Int)).toNat else min v.toNat n
theorem sIx_le (n d : Nat) (hd : d ≤ n) (o : Option Int) : sIx n d o ≤ n := by
  cases o with
  | none => exact hd
  | some v =>
    show (if v < 0 then (v + (n : Int)).toNat else min v.toNat n) ≤ n
    by_cases hv : v < 0
    · rw [if_pos hv]; omega
    · rw [if_neg hv]; exact Nat.min_le_right _ _
theorem clip_eq (v : Int) (n d : Nat) : (if v < 0 then max (v + (n : Int)) 0 else min v (n : Int)) = ((sIx n d (some v) : Nat) : Int) := by
  show (if v < 0 then max (v + (n : Int)) 0 else min v (n : Int)) = (((if v < 0 then (v + (n : Int)).toNat else min v.toNat n) : Nat) : Int)
  by_cases hv : v < 0
  · simp only [if_pos hv]; omega
  · simp only [if_neg hv]; omega
theorem adjust_gen (lo hi : Option Int) (n : Nat) : Builtin.Slice.sliceAdjust lo hi 1 (n : Int) = (((sIx n 0 lo : Nat) : Int), ((sIx n n hi : Nat) : Int)) := by
  have h1 : ¬ ((1 : Int) < 0) := by omega
  unfold Builtin.Slice.sliceAdjust
  simp only [h1, if_false]
  refine Prod.ext ?_ ?_
  · cases lo with
    | none => rfl
    | some v => exact clip_eq v n 0
  · cases hi with
    | none => rfl
    | some v => exact clip_eq v n n
theorem places_gen (i j : Nat) : Builtin.Slice.slicePlaces (i : Int) (j : Int) 1 = j - i := by
  unfold Builtin.Slice.slicePlaces
  have h1 : (1 : Int) > 0 := by omega
  simp only [h1, if_true, Int.ediv_one]
  split <;> omega
theorem slicePart_ {v : Value} {o : Option Int} {Q : Option Int → Shared → Prop} (p : IsPart v o) (h : Q o s) : wpAny (model prog w) A (Builtin.Slice.slicePartIndex v) Q E s := by
  cases p with
  | none => exact slicePart_none h
  | int i t => exact slicePart_int h
theorem sliceApplied_gen {sl : Addr} {vl vu : Value} {lo hi : Option Int} {n : Nat} {Q : Int × Int × Nat → Shared → Prop} (hs : s.heap.IsSliceOf sl vl vu .none) (pl : IsPart vl lo) (pu : IsPart vu hi)
    (h : Q (((sIx n 0 lo : Nat) : Int), 1, sIx n n hi - sIx n 0 lo) s) : wpAny (model prog w) A (Builtin.Slice.sliceApplied (.ref sl) (pure (n : Int))) Q E s := by
  obtain ⟨os, hos, hcs, hds⟩ := id hs
  unfold Builtin.Slice.sliceApplied Builtin.Slice.sliceFields
  refine wpAny_bind (wpAny_bind (wpAny_field hos hds (x := vl) rfl (wpAny_bind (wpAny_field hos hds (x := vu) rfl (wpAny_bind (wpAny_field hos hds (x := .none) rfl (wpAny_pure ?_)))))))
  refine wpAny_bind (slicePart_none ?_)
  show wpAny _ _ (if ((1 : Int) == 0) = true then _ else _) _ _ s
  rw [if_neg (by decide)]
  refine wpAny_bind (slicePart_ pl (wpAny_bind (slicePart_ pu (wpAny_bind (wpAny_pure ?_)))))
  show wpAny _ _ (match Builtin.Slice.sliceAdjust lo hi 1 (n : Int) with | (lo, hi) => pure (lo, (1 : Int), Builtin.Slice.slicePlaces lo hi 1)) _ _ s
  rw [adjust_gen lo hi n]
  show wpAny _ _ (pure (((sIx n 0 lo : Nat) : Int), (1 : Int), Builtin.Slice.slicePlaces ((sIx n 0 lo : Nat) : Int) ((sIx n n hi : Nat) : Int) 1)) _ _ s
  rw [places_gen]
  exact wpAny_pure h
theorem pick_gen (xs : Array Value) (i k : Nat) : ((List.range k).filterMap fun (m : Nat) => xs[((i : Int) + (m : Int) * 1).toNat]?).toArray = ((xs.toList.drop i).take k).toArray := by
  have e : (fun (m : Nat) => xs[((i : Int) + (m : Int) * 1).toNat]?) = fun m => xs[i + m]? := by
    funext m
    have : ((i : Int) + (m : Int) * 1).toNat = i + m := by omega
    rw [this]
  rw [e]
  have := pick_run xs i k
  rw [List.filterMap_map] at this
  have e2 : ((fun x => xs[x]?) ∘ fun x => i + x) = fun m => xs[i + m]? := rfl
  rw [e2] at this
  rw [this]

theorem getItem_tuple_cut {t sl : Addr} {items : Array Value} {vl vu : Value} {lo hi : Option Int} {Q : Value → Shared → Prop} (ht : IsTup s.heap t items) (hs : s.heap.IsSliceOf sl vl vu .none) (pl : IsPart vl lo) (pu : IsPart vu hi)
    (hw : ¬ (sIx items.size 0 lo = 0 ∧ sIx items.size items.size hi = items.size))
    (h : Q (.ref s.heap.objs.size) { s with heap := s.heap.push { cls := .type "tuple", data := .seq ((items.toList.drop (sIx items.size 0 lo)).take (sIx items.size items.size hi - sIx items.size 0 lo)).toArray } })
    (hsz : items.size ≤ sizeLine) : wpAny (model prog w) A (getItem (.ref t) (.ref sl)) Q E s := by
  have htake : sizeOk (.seq ((items.toList.drop (sIx items.size 0 lo)).take (sIx items.size items.size hi - sIx items.size 0 lo)).toArray) := by
    show ((items.toList.drop (sIx items.size 0 lo)).take (sIx items.size items.size hi - sIx items.size 0 lo)).toArray.size ≤ sizeLine
    rw [List.size_toArray, List.length_take, List.length_drop, Array.length_toList]
    omega
  have hj : sIx items.size items.size hi ≤ items.size := sIx_le _ _ (Nat.le_refl _) hi
  obtain ⟨os, hos, hcs, hds⟩ := id hs
  have hTs : s.TypeIs (.ref sl) "slice" := ⟨os, hos, hcs⟩
  unfold getItem
  try with_reducible refine wpAny_holding ?_
  first | refine wpAny_bind (wpAny_pure ?_) | skip
  refine wpAny_bind (wpAny_sequenceKey ht.typeIs (by decide) ?_)
  refine wpAny_bind (wpAny_callSpecial?_slot (name := Str.ofString "__getitem__") ht.typeIs PyProof.Rows.slot_tuple_getitem
    (wpAny_call_entry PyProof.Rows.slot_tuple_getitem ht.typeIs entry_tuple_getitem ?_ (args_tuple_getitem _ _)))
  show wpAny _ _ (Builtin.Tuple.tupleItemsOf (.ref t) >>= _) _ _ s
  refine wpAny_bind (tupleItemsOf_ ht ?_)
  refine wpAny_bind (wpAny_typeOf hTs ?_)
  rw [if_pos (by decide)]
  refine wpAny_bind (sliceApplied_gen hs pl pu ?_)
  have hno : ¬ ((((sIx items.size 0 lo : Nat) : Int) == 0 && (1 : Int) == 1 && (sIx items.size items.size hi - sIx items.size 0 lo) == items.size) = true) := by
    intro q
    rw [Bool.and_eq_true, Bool.and_eq_true] at q
    have q1 : ((sIx items.size 0 lo : Nat) : Int) = 0 := eq_of_beq q.1.1
    have q2 : sIx items.size items.size hi - sIx items.size 0 lo = items.size := eq_of_beq q.2
    exact hw ⟨by omega, by omega⟩
  show wpAny _ _ (if (((sIx items.size 0 lo : Nat) : Int) == 0 && (1 : Int) == 1 && (sIx items.size items.size hi - sIx items.size 0 lo) == items.size) = true then _ else _) _ _ s
  rw [if_neg hno, pick_gen]
  first
    | exact wpAny_bind (m := Builtin.Tuple.tupleExact _) (wpAny_newObj_type (wpAny_pure ⟨_, rfl, wpAny_pure h⟩) htake)
    | exact wpAny_bind (m := Builtin.Tuple.tupleExact _) (wpAny_newObj_type (wpAny_bind (wpAny_pure (wpAny_pure ⟨_, rfl, wpAny_pure h⟩))) htake)
    | exact wpAny_bind (wpAny_bind (m := Builtin.Tuple.tupleExact _) (wpAny_newObj_type (wpAny_pure (wpAny_pure ⟨_, rfl, wpAny_pure h⟩)) htake))
    | exact wpAny_bind (wpAny_bind (m := Builtin.Tuple.tupleExact _) (wpAny_newObj_type (wpAny_pure ⟨_, rfl, wpAny_pure h⟩) htake))
end
end HT

namespace L2
open PySem PySem.Spec PyProof.Rows

/-! ### the parts of a slice -/
abbrev TO := St → Hp → (Option Int → Hp → Prop) → Prop
/-- a slice's part (left out, or an int) -/
def PO (X : Cx) (e : Option Expr) (t : TO) : Prop :=
  ∀ (pins : List (Addr × Obj)) (s : Shared) (σ : St) (H : Hp) (Q : Option Int → Hp → Prop), Inv X pins σ H s → t σ H Q →
    wpAny (model X.prog X.w) X.A (evalPart e X.env) (fun u s' => ∃ o H', Inv X pins σ H' s' ∧ IsPart u o ∧ Q o H') X.xe s
def tNoPart : TO := fun _ H Q => Q none H
def tPart (t : TE) : TO := fun σ H Q => t σ H fun x H1 => ∃ i, x = .int i ∧ Q (some i) H1

section
variable {X : Cx} {e : Expr} {te : TE} {lo hi : Option Expr} {tl th : TO} {pos p2 : Pos}

theorem po_none : PO X none tNoPart := by
  intro pins s σ H Q I h
  rw [evalPart_none]
  exact wpAny_pure ⟨none, H, I, .none, h⟩
theorem po_some (h : PE X e te) : PO X (some e) (tPart te) := by
  intro pins s σ H Q I hw
  rw [evalPart_some]
  refine thn (h pins s σ H _ I hw) fun u s1 ⟨x, H1, I1, r1, q1⟩ => ?_
  obtain ⟨i, rfl, q⟩ := q1
  obtain ⟨t, rfl⟩ := r1
  exact ⟨some i, H1, I1, .int i t, q⟩

/-- what a slice of a value is, by values: the slice object stands at sl -/
def SlR (X : Cx) (r : V → Option Int → Option Int → Hp → VK → Prop) : Prop :=
  ∀ (pins : List (Addr × Obj)) (s : Shared) (σ : St) (H : Hp) (x : V) (v vl vu : Value) (lo hi : Option Int) (sl : Addr) (Q : VK), Inv X pins σ H s → RelV x v → s.heap.IsSliceOf sl vl vu .none → IsPart vl lo → IsPart vu hi → r x lo hi H Q →
    ∃ T id, typeLookup (.type T) "__getitem__" = pure (some (.builtin id)) ∧ s.TypeIs v T ∧ wpAny (model X.prog X.w) X.A (getItem v (.ref sl)) (EP X pins σ Q) X.xe s
theorem SlR.or {r r' : V → Option Int → Option Int → Hp → VK → Prop} (h : SlR X r) (h' : SlR X r') : SlR X (fun x lo hi H Q => r x lo hi H Q ∨ r' x lo hi H Q) := by
  intro pins s σ H x v vl vu lo hi sl Q I rx hs pl pu q
  rcases q with q | q
  · exact h pins s σ H x v vl vu lo hi sl Q I rx hs pl pu q
  · exact h' pins s σ H x v vl vu lo hi sl Q I rx hs pl pu q
def tSl (r : V → Option Int → Option Int → Hp → VK → Prop) (te : TE) (tl th : TO) : TE := fun σ H Q => te σ H fun x H1 => tl σ H1 fun l H2 => th σ H2 fun u H3 => r x l u H3 Q
/-- a[lo:hi], any a -/
theorem pe_slice {r : V → Option Int → Option Int → Hp → VK → Prop} (hr : SlR X r) (he : PE X e te) (hl : PO X lo tl) (hu : PO X hi th) : PE X (.Subscript e (.Slice lo hi none p2) pos) (tSl r te tl th) := by
  intro pins s σ H Q I h
  refine Subscript_ (thn (he pins s σ H _ I h) fun v s1 ⟨x, H1, I1, r1, q1⟩ => ?_)
  refine wpAny_Slice (thn (hl pins s1 σ H1 _ I1 q1) fun vl s2 ⟨l, H2, I2, pl, q2⟩ => thn (hu pins s2 σ H2 _ I2 q2) fun vu s3 ⟨u, H3, I3, pu, q3⟩ => ?_)
  rw [evalPart_none]
  refine wpAny_pure ?_
  have I4 : Inv X pins σ H3 { s3 with heap := s3.heap.push { cls := .type "slice", data := .fields #[vl, vu, .none] } } := I3.kept (t' := s3.toks) fun b ob q => Heap.get?_push_of_some _ q
  obtain ⟨T, id, hT, ht, hg⟩ := hr pins { s3 with heap := s3.heap.push { cls := .type "slice", data := .fields #[vl, vu, .none] } } σ H3 x v vl vu l u s3.heap.objs.size Q I4 r1 (Heap.IsSliceOf.new ..) pl pu q3
  show wpAny (model X.prog X.w) X.A (subscriptTail e (.Slice lo hi none p2) v (.ref s3.heap.objs.size)) (EP X pins σ Q) X.xe { s3 with heap := s3.heap.push { cls := .type "slice", data := .fields #[vl, vu, .none] } }
  exact tail_any (ops := [.ref s3.heap.objs.size, v]) ht hT hg (by with_unfolding_all rfl)

/-- the items of xs[lo:hi] -/
def cutV (xs : List V) (lo hi : Option Int) : List V := (xs.drop (HT.sIx xs.length 0 lo)).take (HT.sIx xs.length xs.length hi - HT.sIx xs.length 0 lo)
theorem cutV_length (xs : List V) (lo hi : Option Int) : (cutV xs lo hi).length ≤ xs.length := by
  unfold cutV
  rw [List.length_take, List.length_drop]
  omega
/-- t[lo:hi], not the whole of it (the whole would be t itself) -/
def rSlT (K : PySem.W.Frag) : V → Option Int → Option Int → Hp → VK → Prop := fun x lo hi H Q => ∃ a xs, x = .ref a ∧ SqT K H a xs ∧
  ¬ (HT.sIx xs.length 0 lo = 0 ∧ HT.sIx xs.length xs.length hi = xs.length) ∧ ∀ p, H p = none → Q (.ref p) (upd H p (.tup (cutV xs lo hi)))
theorem sl_tup : SlR X (rSlT X.K) := by
  intro pins s σ H x v vl vu lo hi sl Q I rx hs pl pu h
  obtain ⟨a, xs, rfl, hx, hw, q⟩ := h
  cases rx
  obtain ⟨its, r, ht, hz⟩ := I.tuple hx
  have hlen : its.toArray.size = xs.length := by rw [List.size_toArray]; exact r.length.symm
  refine ⟨"tuple", _, PyProof.Rows.slot_tuple_getitem.lookup, ht.typeIs, ?_⟩
  refine HT.getItem_tuple_cut ht hs pl pu (by rw [hlen]; exact hw) ?_ (by rw [hlen]; exact hz)
  rw [hlen]
  refine ⟨.ref s.heap.objs.size, _, I.laid (t' := s.toks) (o := .tup (cutV xs lo hi)) (fun b ob q => Heap.get?_push_of_some _ q) (Nat.le_refl _) ?_, rfl, q _ (I.hok.fresh (Nat.le_refl _))⟩
  exact ⟨Nat.le_trans (cutV_length xs lo hi) hz, _, (r.drop (HT.sIx xs.length 0 lo)).take (HT.sIx xs.length xs.length hi - HT.sIx xs.length 0 lo), IsTup.new _ _⟩

/-- t + u, t not empty: u empty gives t itself -/
def rCatT (K : PySem.W.Frag) : R2 := fun x y H Q => ∃ a b xs ys, x = .ref a ∧ y = .ref b ∧ SqT K H a xs ∧ SqT K H b ys ∧ xs ≠ [] ∧ xs.length + ys.length ≤ sizeLine ∧
  (ys = [] → Q (.ref a) H) ∧ (ys ≠ [] → ∀ p, H p = none → Q (.ref p) (upd H p (.tup (xs ++ ys))))
theorem Vals.nil_iff {xs : List V} {us : List Value} (r : Vals xs us) : us = [] ↔ xs = [] := by
  cases r with
  | nil => simp
  | cons _ _ => simp
theorem op_catT : OpR X (binaryOp .Add) (rCatT X.K) := by
  intro pins s σ H x y v u Q I rx ry h
  obtain ⟨a, b, xs, ys, rfl, rfl, ha, hb, hx, hz, q1, q2⟩ := h
  cases rx
  cases ry
  obtain ⟨its, r1, p1, _⟩ := I.tuple ha
  obtain ⟨its2, r2, p2, _⟩ := I.tuple hb
  refine HT.cat_tup p1 p2 (fun z => hx (r1.nil_iff.mp z)) (fun z => ⟨.ref a, H, I, rfl, q1 (r2.nil_iff.mp z)⟩) (fun z => ?_) (by rw [← r1.length, ← r2.length]; exact hz)
  refine ⟨.ref s.heap.objs.size, _, I.laid (t' := s.toks) (o := .tup (xs ++ ys)) (fun b ob q => Heap.get?_push_of_some _ q) (Nat.le_refl _) ?_, rfl, q2 (fun w => z (r2.nil_iff.mpr w)) _ (I.hok.fresh (Nat.le_refl _))⟩
  exact ⟨by rw [List.length_append]; exact hz, _, r1.append r2, IsTup.new _ _⟩
end
end L2

namespace L2
open PySem PySem.Spec PyProof.Rows

/-! ### places -/
/-- the place that an index of any sign means -/
def ixN (n : Nat) (i : Int) : Option Nat := if 0 ≤ i then (if i < n then some i.toNat else none) else if -(n : Int) ≤ i then some (i + n).toNat else none
def atI {α : Type} (xs : List α) (i : Int) : Option α := (ixN xs.length i).bind fun j => xs[j]?
theorem ixN_seq {n : Nat} {i : Int} {j : Nat} (h : ixN n i = some j) : seqIndex? i n = some j ∧ j < n ∧ -(n : Int) ≤ i ∧ i < n := by
  unfold ixN at h
  by_cases h0 : 0 ≤ i
  · rw [if_pos h0] at h
    by_cases h1 : i < n
    · rw [if_pos h1] at h
      have e : i.toNat = j := Option.some.inj h
      exact ⟨by rw [seqIndex_of h0 h1, e], by omega, by omega, h1⟩
    · rw [if_neg h1] at h; cases h
  · rw [if_neg h0] at h
    by_cases h1 : -(n : Int) ≤ i
    · rw [if_pos h1] at h
      have e : (i + n).toNat = j := Option.some.inj h
      exact ⟨by rw [seqIndex_neg (by omega) h1, e], by omega, h1, by omega⟩
    · rw [if_neg h1] at h; cases h
theorem atI_get {α : Type} {xs : List α} {i : Int} {v : α} (h : atI xs i = some v) : ∃ j, seqIndex? i xs.length = some j ∧ xs[j]? = some v ∧ j < xs.length ∧ -(xs.length : Int) ≤ i ∧ i < xs.length := by
  unfold atI at h
  cases e : ixN xs.length i with
  | none => rw [e] at h; cases h
  | some j =>
    rw [e] at h
    obtain ⟨h1, h2, h3, h4⟩ := ixN_seq e
    exact ⟨j, h1, h, h2, h3, h4⟩
/-! ### what may be subscripted -/
/-- what stands as an index of a plain subscript -/
def PlainIx (b : Expr) : Prop := ∀ o i, subscripted b false o i = operate [o, i] (getItem o i)
/-- a subscript by values -/
def IxR (X : Cx) (r : R2) : Prop :=
  ∀ (value slice : Expr) (pins : List (Addr × Obj)) (s : Shared) (σ : St) (H : Hp) (x y : V) (v u : Value) (Q : VK), Inv X pins σ H s → RelV x v → RelV y u → r x y H Q →
    subscripted slice false v u = operate [v, u] (getItem v u) → wpAny (model X.prog X.w) X.A (subscriptTail value slice v u) (EP X pins σ Q) X.xe s
/-- a call of a builtin's method by values: the receiver, the arguments -/
def MtR (X : Cx) (id : String) (r : V → List V → Hp → VK → Prop) : Prop :=
  ∀ (pins : List (Addr × Obj)) (s : Shared) (σ : St) (H : Hp) (x : V) (xs : List V) (v : Value) (us : List Value) (Q : VK), Inv X pins σ H s → RelV x v → Vals xs us → r x xs H Q →
    wpAny (model X.prog X.w) X.A (call (.builtin id) (v :: us)) (EP X pins σ Q) X.xe s
section
variable {X : Cx} {a b : Expr} {ta tb : TE} {pos : Pos}
theorem IxR.or {r r' : R2} (h : IxR X r) (h' : IxR X r') : IxR X (fun x y H Q => r x y H Q ∨ r' x y H Q) := by
  intro value slice pins s σ H x y v u Q I rx ry q hs
  rcases q with q | q
  · exact h value slice pins s σ H x y v u Q I rx ry q hs
  · exact h' value slice pins s σ H x y v u Q I rx ry q hs
theorem MtR.or {id : String} {r r' : V → List V → Hp → VK → Prop} (h : MtR X id r) (h' : MtR X id r') : MtR X id (fun x xs H Q => r x xs H Q ∨ r' x xs H Q) := by
  intro pins s σ H x xs v us Q I rx rs q
  rcases q with q | q
  · exact h pins s σ H x xs v us Q I rx rs q
  · exact h' pins s σ H x xs v us Q I rx rs q
/-- a[b] -/
theorem pe_ix {r : R2} (hr : IxR X r) (ha : PE X a ta) (hb : PE X b tb) (hs : PlainIx b) : PE X (.Subscript a b pos) (tOp r ta tb) := by
  intro pins s σ H Q I h
  exact Subscript_ (binT ha hb I h fun v u s2 x y H2 I2 rx ry q => hr a b pins s2 σ H2 x y v u Q I2 rx ry q (hs _ _))

def rIxL (K : PySem.W.Frag) : R2 := fun x y H Q => ∃ p xs i v, x = .ref p ∧ y = .int i ∧ SqL K H p xs ∧ atI xs i = some v ∧ Q v H
def rIxT (K : PySem.W.Frag) : R2 := fun x y H Q => ∃ p xs i v, x = .ref p ∧ y = .int i ∧ SqT K H p xs ∧ atI xs i = some v ∧ Q v H
def rIxS : R2 := fun x y H Q => ∃ z i c, x = .str z ∧ y = .int i ∧ z.length ≤ sizeLine ∧ atI z.cps.toList i = some c ∧ Q (.str ⟨#[c]⟩) H
theorem ix_list : IxR X (rIxL X.K) := by
  intro value slice pins s σ H x y v u Q I rx ry h hs
  obtain ⟨p, xs, i, z, rfl, rfl, hq, he, q⟩ := h
  cases rx
  obtain ⟨t, rfl⟩ := ry
  obtain ⟨its, r, pl, hz⟩ := I.list hq
  obtain ⟨j, h1, h2, h3, h4, h5⟩ := atI_get he
  obtain ⟨w, ew, rw'⟩ := r.get h2
  have hl := r.length
  have hn := line63
  have fin : EP X pins σ Q w s := ⟨z, H, I, rw', q⟩
  by_cases h0 : 0 ≤ i
  · have hj : i.toNat = j := by
      rw [seqIndex_of h0 h5] at h1
      exact Option.some.inj h1
    exact item_listR pl.isList h0 (by omega) (by rw [hj]; simpa using ew) fin hs
  · have hj : (i + (its.toArray.size : Int)).toNat = j := by
      rw [seqIndex_neg (by omega) h4] at h1
      rw [List.size_toArray, ← hl]
      exact Option.some.inj h1
    exact subscriptTail_builtinR (x := w) pl.isList.typeIs slot_list_getitem.lookup
      (wpAny_getItem_list_neg (Q := fun r s' => r = w ∧ EP X pins σ Q r s') pl.isList (by omega) (by rw [List.size_toArray] <;> omega) (by omega) (by rw [hj]; simpa using ew) ⟨rfl, fin⟩) hs
theorem ix_tup : IxR X (rIxT X.K) := by
  intro value slice pins s σ H x y v u Q I rx ry h hs
  obtain ⟨p, xs, i, z, rfl, rfl, hq, he, q⟩ := h
  cases rx
  obtain ⟨t, rfl⟩ := ry
  obtain ⟨its, r, pl, hz⟩ := I.tuple hq
  obtain ⟨j, h1, h2, h3, h4, h5⟩ := atI_get he
  obtain ⟨w, ew, rw'⟩ := r.get h2
  have hl := r.length
  have hn := line63
  have fin : EP X pins σ Q w s := ⟨z, H, I, rw', q⟩
  exact subscriptTail_builtinR (x := w) pl.typeIs slot_tuple_getitem.lookup
    (getItem_tuple (j := j) (Q := fun r s' => r = w ∧ EP X pins σ Q r s') pl (by omega) (by omega) (by rw [List.size_toArray, ← hl]; exact h1) (by simpa using ew) ⟨rfl, fin⟩) hs
theorem ix_str : IxR X rIxS := by
  intro value slice pins s σ H x y v u Q I rx ry h hs
  obtain ⟨z, i, c, rfl, rfl, hz, he, q⟩ := h
  obtain ⟨t, rfl⟩ := rx
  obtain ⟨t', rfl⟩ := ry
  obtain ⟨j, h1, h2, h3, h4, h5⟩ := atI_get he
  have hl : z.cps.toList.length = z.length := by simp [Str.length]
  rw [hl] at h1 h4 h5
  have hn := line63
  exact tail_any (typeIs_str s z t) slot_str_getitem.lookup (getItem_str (c := c) (by
    have e1 : decide (i < -(2 ^ 63 : Int)) = false := decide_eq_false (by omega)
    have e2 : decide (i ≥ 2 ^ 63) = false := decide_eq_false (by omega)
    rw [e1, e2, Bool.or_false]) (by rw [h1]; simpa using h2) ⟨.str ⟨#[c]⟩, H, I.tok _, ⟨_, rfl⟩, q⟩) hs
/-- list, tuple or str -/
def rIx (K : PySem.W.Frag) : R2 := fun x y H Q => rIxL K x y H Q ∨ rIxT K x y H Q ∨ rIxS x y H Q
theorem ix_seq : IxR X (rIx X.K) := ix_list.or (ix_tup.or ix_str)

theorem Inv.lst {pins : List (Addr × Obj)} {σ : St} {H : Hp} {s : Shared} {p : Addr} {xs : List V} (I : Inv X pins σ H s) (h : H p = some (.lst xs)) :
    ∃ (its : List Value) (n : Nat), Vals xs its ∧ s.heap.get? p = some { cls := .type "list", data := .seq its.toArray n } ∧ xs.length ≤ sizeLine := by
  obtain ⟨z, its, n, r, e⟩ := I.hok p _ h
  exact ⟨its, n, r, e, z⟩
/-! ### slices -/
theorem slice_bounds (lo hi : Option Int) (n : Nat) : (sliceBounds lo hi none n).1 = ((HT.sIx n 0 lo : Nat) : Int) ∧ (sliceBounds lo hi none n).2.1 = ((HT.sIx n n hi : Nat) : Int) ∧ (sliceBounds lo hi none n).2.2 = 1 := by
  refine ⟨?_, ?_, rfl⟩
  · cases lo with
    | none => simp [sliceBounds, HT.sIx]
    | some i =>
      simp only [sliceBounds, HT.sIx, Option.getD_none, show (1 : Int) > 0 by decide, if_true]
      by_cases h : i < 0
      · simp only [h, if_true] <;> omega
      · simp only [h, if_false] <;> omega
  · cases hi with
    | none => simp [sliceBounds, HT.sIx]
    | some i =>
      simp only [sliceBounds, HT.sIx, Option.getD_none, show (1 : Int) > 0 by decide, if_true]
      by_cases h : i < 0
      · simp only [h, if_true] <;> omega
      · simp only [h, if_false] <;> omega
theorem slicePick_cut (its : List Value) (lo hi : Option Int) : slicePick its.toArray lo hi none = ((its.drop (HT.sIx its.length 0 lo)).take (HT.sIx its.length its.length hi - HT.sIx its.length 0 lo)).toArray := by
  obtain ⟨h1, h2, h3⟩ := slice_bounds lo hi its.toArray.size
  unfold slicePick
  rw [h1, h2, h3]
  simp only [sliceRange_one, pick_run, List.size_toArray] <;> rfl
/-- xs[lo:hi] of a list: a new list -/
def rSlL (K : PySem.W.Frag) : V → Option Int → Option Int → Hp → VK → Prop := fun x lo hi H Q => ∃ a xs, x = .ref a ∧ SqL K H a xs ∧ ∀ p, H p = none → Q (.ref p) (upd H p (.lst (cutV xs lo hi)))
theorem sl_list : SlR X (rSlL X.K) := by
  intro pins s σ H x v vl vu lo hi sl Q I rx hs pl pu h
  obtain ⟨a, xs, rfl, hx, q⟩ := h
  cases rx
  obtain ⟨its, r, ht, hz⟩ := I.list hx
  have hlen := r.length
  refine ⟨"list", _, slot_list_getitem.lookup, ht.isList.typeIs, ?_⟩
  refine wpAny_getItem_list_slice ht.isList hs pl pu .none (by simp) ?_ (by rw [List.size_toArray] <;> omega)
  rw [slicePick_cut, ← hlen]
  refine ⟨.ref s.heap.objs.size, _, I.laid (t' := s.toks) (o := .lst (cutV xs lo hi)) (fun b ob q => Heap.get?_push_of_some _ q) (Nat.le_refl _) ?_, rfl, q _ (I.hok.fresh (Nat.le_refl _))⟩
  exact ⟨Nat.le_trans (cutV_length xs lo hi) hz, _, 0, (r.drop (HT.sIx xs.length 0 lo)).take (HT.sIx xs.length xs.length hi - HT.sIx xs.length 0 lo), Heap.get?_push_size _ rfl⟩

/-! ### len, list(x), tuple(x) of any list or tuple that is read -/
theorem call_len_seq : CallR X (.builtin "len") (fun xs H Q => ∃ p ys, xs = [.ref p] ∧ (SqL X.K H p ys ∨ SqT X.K H p ys) ∧ Q (.int ys.length) H) := by
  intro pins s σ H xs us Q I r h
  obtain ⟨p, ys, rfl, hq, q⟩ := h
  obtain ⟨u, rfl, rx⟩ := vals1 r
  cases rx
  have hn := line63
  rcases hq with hq | hq
  · obtain ⟨its, r', pl, hz⟩ := I.list hq
    have hlen := r'.length
    exact Calls.call_len_list pl.isList (by simp only [List.size_toArray] <;> omega) ⟨.int ys.length, H, I.tok _, ⟨s.toks + 1, by rw [List.size_toArray, hlen]⟩, q⟩
  · obtain ⟨its, r', pl, hz⟩ := I.tuple hq
    have hlen := r'.length
    exact len_tuple pl (by simp only [List.size_toArray] <;> omega) ⟨.int ys.length, H, I.tok _, ⟨s.toks + 1, by rw [List.size_toArray, hlen]⟩, q⟩
theorem call_len_str : CallR X (.builtin "len") (fun xs H Q => ∃ z, xs = [.str z] ∧ z.length ≤ sizeLine ∧ Q (.int z.length) H) := by
  intro pins s σ H xs us Q I r h
  obtain ⟨z, rfl, hz, q⟩ := h
  obtain ⟨u, rfl, t, rfl⟩ := vals1 r
  have hn := line63
  exact len_str (by omega) ⟨.int z.length, H, I.tok _, ⟨_, rfl⟩, q⟩
theorem CallR.or {f : Value} {r r' : List V → Hp → VK → Prop} (h : CallR X f r) (h' : CallR X f r') : CallR X f (fun xs H Q => r xs H Q ∨ r' xs H Q) := by
  intro pins s σ H xs us Q I rs q
  rcases q with q | q
  · exact h pins s σ H xs us Q I rs q
  · exact h' pins s σ H xs us Q I rs q
/-! ### the call of a builtin's method: o.m(..) -/
/-- the value is of that builtin type -/
def tyV (K : PySem.W.Frag) (T : String) (x : V) (H : Hp) : Prop := match x with
  | .str _ => T = "str"
  | .int _ => T = "int"
  | .ref p => (T = "list" ∧ ∃ xs, SqL K H p xs) ∨ (T = "tuple" ∧ ∃ o, K.lookup p = some o ∧ o.cls = .type "tuple" ∧ o.dict = none) ∨
      (T = "dict" ∧ ((∃ kvs, H p = some (.dK kvs)) ∨ ∃ kvs, H p = some (.dT kvs))) ∨ (T = "set" ∧ ∃ S n, H p = some (.set S n))
  | _ => False
theorem tyV_is {pins : List (Addr × Obj)} {σ : St} {H : Hp} {s : Shared} {T : String} {x : V} {v : Value} (I : Inv X pins σ H s) (r : RelV x v) (ty : tyV X.K T x H) :
    s.TypeIs v T ∧ ∀ a, v = .ref a → ∃ ob, s.heap.get? a = some ob ∧ ob.dict = none := by
  cases x with
  | str z =>
    obtain ⟨t, rfl⟩ := r
    cases (show T = "str" from ty)
    exact ⟨typeIs_str s z t, fun _ e => nomatch e⟩
  | int i =>
    obtain ⟨t, rfl⟩ := r
    cases (show T = "int" from ty)
    exact ⟨typeIs_int s i t, fun _ e => nomatch e⟩
  | ref p =>
    cases r
    rcases ty with ⟨rfl, xs, hq⟩ | ⟨rfl, o, hk, hc, hd⟩ | ⟨rfl, hk⟩ | ⟨rfl, S, n, hk⟩
    · obtain ⟨its, _, pl, _⟩ := I.list hq
      refine ⟨pl.isList.typeIs, fun a e => ?_⟩
      cases e
      obtain ⟨o, n, e, c, hd, _⟩ := pl
      exact ⟨o, e, hd⟩
    · refine ⟨⟨o, I.kIn p o hk, hc⟩, fun a e => ?_⟩
      cases e
      exact ⟨o, I.kIn _ o hk, hd⟩
    · have z : ∃ o, s.heap.get? p = some o ∧ o.ExactDict := by
        rcases hk with ⟨kvs, hk⟩ | ⟨kvs, hk⟩
        · obtain ⟨_, _, _, _, o, _, _, e, ex, _⟩ := I.hok p _ hk
          exact ⟨o, e, ex⟩
        · obtain ⟨_, _, _, _, o, _, _, e, ex, _⟩ := I.hok p _ hk
          exact ⟨o, e, ex⟩
      obtain ⟨o, e, ex⟩ := z
      refine ⟨⟨o, e, ex.1⟩, fun a e2 => ?_⟩
      cases e2
      exact ⟨o, e, ex.2.1⟩
    · obtain ⟨o, _, _, _, e, ex, _⟩ := I.hok p _ hk
      refine ⟨⟨o, e, ex.1⟩, fun a e2 => ?_⟩
      cases e2
      exact ⟨o, e, ex.2.1⟩
  | _ => exact False.elim ty
def tBM0 (K : PySem.W.Frag) (T : String) (r : V → List V → Hp → VK → Prop) (to : TE) : TE := fun σ H Q => to σ H fun x H1 => tyV K T x H1 ∧ r x [] H1 Q
def tBM (K : PySem.W.Frag) (T : String) (r : V → List V → Hp → VK → Prop) (to : TE) (t : TA) : TE := fun σ H Q => to σ H fun x H1 => tyV K T x H1 ∧ t σ H1 fun xs H2 => r x xs H2 Q
variable {o e : Expr} {es : List Expr} {to : TE} {t : TA} {name : Str} {apos cpos : Pos} {T id : String} {r : V → List V → Hp → VK → Prop}
theorem pe_bm0 (pa : PlainAttrs T) (slot : Slot T name id) (hty : typeOf (.builtin id) = pure (.type "method_descriptor")) (hm : MtR X id r) (ho : PE X o to)
    (hbase : attributeBase o name X.env (eval o X.env) = eval o X.env := by rfl) (hline : (apos.endLine == cpos.line) = true := by rfl) : PE X (.Call (.Attribute o name apos) [] [] cpos) (tBM0 X.K T r to) := by
  intro pins s σ H Q I h
  refine wpAny_Call_method0_late hbase hline (thn (ho pins s σ H _ I h) fun v s1 ⟨x, H1, I1, r1, ty, q1⟩ => ?_)
  obtain ⟨h1, h2⟩ := tyV_is I1 r1 ty
  exact ⟨T, id, pa, slot, hty, h1, h2, Calls.callWith_builtin rfl (PySem.evalArgs_none (hm pins s1 σ H1 x [] v [] Q I1 r1 .nil q1))⟩
theorem pe_bm (pa : PlainAttrs T) (slot : Slot T name id) (hty : typeOf (.builtin id) = pure (.type "method_descriptor")) (hm : MtR X id r) (ho : PE X o to) (ha : PA X (e :: es) t)
    (hbase : attributeBase o name X.env (eval o X.env) = eval o X.env := by rfl)
    (hfew : ((backTo cpos (starEach (e :: es) X.env)).all (fun x => !x.1) && (backToKw cpos (keywordEach [] X.env)).all (fun x => x.1.isSome)
      && decide ((e :: es).length + ([] : List Keyword).length + (if ([] : List Keyword).isEmpty then 0 else 1) < 30)) = true := by rfl)
    (hline : (apos.endLine == cpos.line) = true := by rfl) (hs : starEach (e :: es) X.env = (false, eval e X.env) :: starEach es X.env := by rfl) (hplain : (backTo cpos (starEach es X.env)).any (·.1) = false := by rfl) :
    PE X (.Call (.Attribute o name apos) (e :: es) [] cpos) (tBM X.K T r to t) := by
  intro pins s σ H Q I h
  refine wpAny_Call_method_late hbase hfew hline rfl (thn (ho pins s σ H _ I h) fun v s1 ⟨x, H1, I1, r1, ty, q1⟩ => ?_)
  obtain ⟨h1, h2⟩ := tyV_is I1 r1 ty
  refine ⟨T, id, pa, slot, hty, h1, h2, ?_⟩
  have hA := ha cpos pins s1 σ H1 _ I1 q1
  rw [hs] at hA ⊢
  refine Calls.callWith_builtin (by show (false || (backTo cpos (starEach es X.env)).any (·.1)) = false; rw [hplain] <;> rfl) (Calls.evalArgs_plain ?_)
  exact thn hA fun us s2 ⟨vs, H2, I2, r2, q2⟩ => hm pins s2 σ H2 x vs v us Q I2 r1 r2 q2
/- xs.append(e), list.index on a module's tuple .. are MtR facts of 06m -/
end
end L2

namespace L2
open PySem PySem.Spec PyProof.Rows

def MtM (X : Cx) (id : String) (r : V → List V → Hp → VK → Prop) : Prop :=
  ∀ (pins : List (Addr × Obj)) (s : Shared) (σ : St) (H : Hp) (x : V) (xs : List V) (v : Value) (us : List Value) (Q : VK), Inv X pins σ H s → RelV x v → Vals xs us → r x xs H Q →
    wpAny (model X.prog X.w) X.A (call (.builtin id) (v :: us)) (EP X pins σ Q) X.xe s

/-! ### lists of values -/
theorem Vals.one : ∀ {x : V} {us : List Value}, Vals [x] us → ∃ u, us = [u] ∧ RelV x u
  | _, _, .cons r .nil => ⟨_, rfl, r⟩
theorem Vals.two : ∀ {x y : V} {us : List Value}, Vals [x, y] us → ∃ u v, us = [u, v] ∧ RelV x u ∧ RelV y v
  | _, _, _, .cons r (.cons q .nil) => ⟨_, _, rfl, r, q⟩
theorem Vals.zero : ∀ {us : List Value}, Vals [] us → us = []
  | _, .nil => rfl
theorem Vals.dropLast {xs : List V} {us : List Value} (h : Vals xs us) : Vals xs.dropLast us.dropLast := by
  induction h with
  | nil => exact .nil
  | cons r t ih =>
    cases t with
    | nil => exact .nil
    | cons q t' => exact .cons r ih
theorem Vals.eraseIdx : ∀ {xs : List V} {us : List Value} (i : Nat), Vals xs us → Vals (xs.eraseIdx i) (us.eraseIdx i)
  | _, _, _, .nil => .nil
  | _, _, 0, .cons _ t => t
  | _, _, i + 1, .cons r t => .cons r (Vals.eraseIdx i t)
theorem Vals.reverse {xs : List V} {us : List Value} (h : Vals xs us) : Vals xs.reverse us.reverse := by
  induction h with
  | nil => exact .nil
  | cons r t ih => rw [List.reverse_cons, List.reverse_cons]; exact Vals.append ih (.cons r .nil)
theorem Vals.rep {xs : List V} {us : List Value} (h : Vals xs us) : ∀ k : Nat, Vals (List.replicate k xs).flatten (List.replicate k us).flatten
  | 0 => .nil
  | k + 1 => by
    rw [List.replicate_succ, List.replicate_succ, List.flatten_cons, List.flatten_cons]
    exact Vals.append h (Vals.rep h k)
theorem erase_last {α : Type} (l : List α) : l.eraseIdx (l.length - 1) = l.dropLast := by
  induction l with
  | nil => rfl
  | cons a r ih =>
    cases r with
    | nil => rfl
    | cons b r =>
      have e : (a :: b :: r).length - 1 = ((b :: r).length - 1) + 1 := by
        have h1 : (a :: b :: r).length = r.length + 2 := rfl
        have h2 : (b :: r).length = r.length + 1 := rfl
        omega
      rw [e, List.eraseIdx_cons_succ, ih]
      all_goals rfl
theorem foldl_rep (its : List Value) : ∀ (k : Nat) (acc : List Value),
    List.foldl (fun x1 x2 => x1 ++ x2) acc.toArray (List.replicate k its.toArray) = (acc ++ (List.replicate k its).flatten).toArray
  | 0, acc => by simp
  | k + 1, acc => by
    have e : acc.toArray ++ its.toArray = (acc ++ its).toArray := by simp
    have e2 : (acc ++ its) ++ (List.replicate k its).flatten = acc ++ (List.replicate (k + 1) its).flatten := by
      rw [List.replicate_succ, List.flatten_cons, List.append_assoc]
    rw [← e2, ← foldl_rep its k (acc ++ its), ← e, List.replicate_succ, List.foldl_cons]

section
variable {X : Cx} {pins : List (Addr × Obj)} {σ : St} {H : Hp} {s : Shared} {l b : Addr} {xs ys zs : List V}

/-! ### the two steps: a tracked list is rewritten, a new list is laid -/
theorem Inv.lset {its its' : List Value} {n : Nat} {f : Array Value → Array Value} {t' : Nat} (I : Inv X pins σ H s) (hH : H l = some (.lst xs))
    (e : s.heap.get? l = some { cls := .type "list", data := .seq its.toArray n }) (hf : f its.toArray = its'.toArray) (hv : Vals ys its') (hz : ys.length ≤ sizeLine) :
    Inv X pins σ (upd H l (.lst ys)) { s with heap := s.heap.update l (Obj.mapSeq f), toks := t' } := by
  have q := PySem.IsL.update e f
  rw [hf] at q
  refine I.write (x := l) (e := l) (by rw [hH]; exact trivial) (.inl rfl) (fun b' u hb hu => (Heap.get?_update_other s.heap (Obj.mapSeq f) (Ne.symm hb)).trans hu) ⟨_, q⟩ ?_
  exact ⟨hz, its', _, hv, q⟩
theorem Inv.lnew {its : List Value} {t' : Nat} (I : Inv X pins σ H s) (hv : Vals ys its) (hz : ys.length ≤ sizeLine) :
    Inv X pins σ (upd H s.heap.objs.size (.lst ys)) { s with heap := s.heap.push { cls := .type "list", data := .seq its.toArray }, toks := t' } :=
  I.laid (fun _ _ q => Heap.get?_push_of_some _ q) (Nat.le_refl _) ⟨hz, its, 0, hv, Heap.get?_push_size _ rfl⟩
theorem Inv.fresh (I : Inv X pins σ H s) : H s.heap.objs.size = none := I.hok.fresh (Nat.le_refl _)
theorem Inv.lstM (I : Inv X pins σ H s) (hH : H l = some (.lst xs)) : xs.length ≤ sizeLine ∧ ∃ (its : List Value) (n : Nat), Vals xs its ∧ xs.length = its.length ∧ s.heap.get? l = some { cls := .type "list", data := .seq its.toArray n } := by
  obtain ⟨z, its, n, r, e⟩ := I.hok l _ hH
  exact ⟨z, its, n, r, r.length, e⟩

theorem notLongL {n : Nat} (h : n ≤ sizeLine) : Builtin.List.listTooLong n = false := by
  unfold Builtin.List.listTooLong
  exact decide_eq_false (by omega)
end

section
variable {X : Cx}

/-! ### methods -/
def rAppend : V → List V → Hp → VK → Prop := fun x vs H Q => ∃ l xs y, x = .ref l ∧ vs = [y] ∧ H l = some (.lst xs) ∧ xs.length < sizeLine ∧ Q .non (upd H l (.lst (xs ++ [y])))
theorem mt_append : MtM X "list.append" rAppend := by
  intro pins s σ H x vs v us Q I rx rv h
  obtain ⟨l, xs, y, rfl, rfl, hH, hz, q⟩ := h
  cases rx
  obtain ⟨u, rfl, ru⟩ := rv.one
  obtain ⟨z, its, n, r, hl, e⟩ := I.lstM hH
  refine call_meets F.slot_list_append ⟨_, e, rfl⟩ F.entry_list_append (F.args_list_append_2 _ _) (PySem.list_append l its.toArray n u (by rw [List.size_toArray]; omega)) ⟨e, ?_⟩
  refine ⟨.non, _, I.lset (its' := its ++ [u]) hH e (by simp) (r.append (.cons ru .nil)) ?_, rfl, q⟩
  rw [List.length_append, List.length_singleton]
  omega

def rPop : V → List V → Hp → VK → Prop := fun x vs H Q => ∃ l xs y, x = .ref l ∧ vs = [] ∧ H l = some (.lst xs) ∧ xs[xs.length - 1]? = some y ∧ Q y (upd H l (.lst xs.dropLast))
theorem mt_pop : MtM X "list.pop" rPop := by
  intro pins s σ H x vs v us Q I rx rv h
  obtain ⟨l, xs, y, rfl, rfl, hH, hy, q⟩ := h
  cases rx
  have hus := rv.zero
  subst hus
  obtain ⟨z, its, n, r, hl, e⟩ := I.lstM hH
  obtain ⟨u, hu, ru⟩ := r.get hy
  have hy' : its.toArray[its.toArray.size - 1]? = some u := by
    show its.toArray[its.length - 1]? = some u
    rw [← Array.getElem?_toList, ← hl]
    exact hu
  refine call_meets F.slot_list_pop ⟨_, e, rfl⟩ F.entry_list_pop (F.args_list_pop_1 _) (MeetsSeq.list_pop_last l its.toArray n u hy' (by rw [List.size_toArray]; omega)) ⟨e, ?_⟩
  refine ⟨y, _, I.lset (its' := its.dropLast) hH e ?_ r.dropLast ?_, ru, q⟩
  · show its.toArray.eraseIdxIfInBounds (its.toArray.size - 1) = its.dropLast.toArray
    rw [List.size_toArray, List.eraseIdxIfInBounds_toArray, erase_last]
  · rw [List.length_dropLast]
    omega

theorem len_rep {α : Type} (xs : List α) (k : Nat) : (List.replicate k xs).flatten.length = k * xs.length := by
  induction k with
  | zero => simp
  | succ k ih => rw [List.replicate_succ, List.flatten_cons, List.length_append, ih, Nat.succ_mul, Nat.add_comm]
end

/-! ### xs[a:b] = ys -/
section
variable {prog : Program} {w : World} {A : Around} {E : Value → Shared → Prop} {s : Shared}
end

section
variable {X : Cx}
end
end L2

namespace Att
open PySem PySem.W PySem.Calls PyProof.Rows

/-! ### the script -/
theorem ints_of_wellAll {P : Params} {h : Heap} : ∀ (ns : List Int) (vs : List Value), WellAll P h vs (ns.map WData.int) → IntsAre vs ns := by
  intro ns
  induction ns with
  | nil =>
    intro vs w
    rw [List.map_nil] at w
    cases w
    exact .nil
  | cons n ns ih =>
    intro vs w
    rw [List.map_cons] at w
    cases w with
    | cons a b =>
      cases a
      exact .cons _ _ (ih _ b)

theorem script_of {l : OpenLaw} {n : Nat} (hn : l.most = some n) {P : Params} {h : Heap} {args : List WData} {vals : List Value}
    (hpre : l.row.toRowW.claim.pre args = true) (hwl : WellAll P h vals args) :
    ∃ a vs ns, vals = [Value.ref a] ∧ args = [WData.list (ns.map WData.int)] ∧ h.get? a = some { cls := .type "list", data := .seq vs.toArray } ∧ IntsAre vs ns ∧ ns.length ≤ n := by
  have hsh : WShape.hasAll [] args [.list .int] = true := (pre_splitW hpre).1
  have hc : l.pre.holds [] { args := args } = true := (pre_splitW hpre).2
  obtain ⟨d, r, rfl, h1, h2⟩ := hasAllW_cons hsh
  obtain rfl := hasAllW_nil h2
  obtain ⟨xs, rfl, h3⟩ := hasW_list h1
  obtain ⟨ns, rfl⟩ := items_int h3
  have hlen : ns.length ≤ n := by
    unfold OpenLaw.pre at hc
    have h4 : (WTm.not (.lt (.lit (.int (n : Int))) (.len (.arg 0)))).holds [] { args := [.list (ns.map .int)] } = true := by
      have h4 := (holds_andW hc).1
      rw [hn] at h4
      exact h4
    have h5 := condW_of h4 (w_not (w_lt w_lit (w_len_list (w_arg rfl))))
    rw [List.length_map] at h5
    refine Nat.le_of_not_lt fun q => ?_
    have q' : (n : Int) < ((ns.length : Nat) : Int) := by omega
    first
      | (rw [decide_eq_true q'] at h5; exact absurd h5 (by decide))
      | (simp at h5; omega)
  cases hwl with
  | cons w1 w2 =>
    cases w2
    cases w1 with
    | list ho hall => exact ⟨_, _, ns, rfl, rfl, ho, ints_of_wellAll ns _ hall, hlen⟩

theorem post_true (l : OpenLaw) (args : List WData) : l.row.toRowW.claim.post args (.bool true) args = true :=
  postW_of (r := l.row.toRowW) (X := (true == true))
    (show WShape.has [] (.bool true) .bool = true by first | rfl | decide | simp [WShape.has, WShape.arms, WShape.armsAll])
    (show (WTm.eq .res (.lit (.bool true))).value [] { args := args, res := some (.bool true), after := args } = some (.bool (true == true)) from w_eq_bool (w_res rfl) w_lit) rfl

/-- the same from a codeAny of the CALL (for a layer whose function contracts speak of calls) -/
theorem attach_call {l : OpenLaw} {n : Nat} {q : Program} {loose : List Str} {XP : (Str → Option Value) → Heap → Prop} {YP : World → Heap → Prop} {d : DefRec}
    (hn : l.most = some n) (hdf : d.params.defaults = [])
    (call : ∀ (w : World) (s₀ s₁ : Shared) (mg mb : Str → Option Value) (fa : Addr) (o : Obj) (pm cd doc : Value) (a : Addr) (vs : List Value) (ns : List Int),
      Ground q loose [] XP w s₀ mg mb s₁.heap → YP w s₁.heap →
      s₁.heap.get? fa = some o → o.data = .func (docDef d.name d.params d.body d.scope pm cd doc) → s₁.heap.CodeRec cd d.name → mg d.name = some (.ref fa) →
      s₁.heap.get? a = some { cls := .type "list", data := .seq vs.toArray } → IntsAre vs ns → ns.length ≤ n → s₁.gens = #[] →
      codeAny (model l.prog w) callerA (.call (.ref fa) ⟨[.ref a], []⟩) (fun r s' => r = .ok (.ret (.bool true)) ∧ OldK s₁.heap s'.heap ∧ s'.os = s₁.os ∧ AllBare s'.gens) s₁) :
    WalkO q loose XP YP l.row.toRowW d [] (fun f vs => PySem.call f vs) := by
  intro w s₀ s₁ mg mb G Y fa o pm cd doc dV kV ho hd hcd hD hmg hg args vals as hpre hlay hrd hwl hlo
  obtain rfl : dV = .none := Dflts.none hD hdf
  obtain rfl : kV = .none := Dflts.noKw hD
  obtain ⟨a, vs, ns, rfl, rfl, hobj, hints, hlen⟩ := script_of hn hpre hwl
  refine enter_call (codeAny_mono (call w s₀ s₁ mg mb fa o pm cd doc a vs ns G Y ho (fd_plain hd) hcd hmg hobj hints hlen hg) fun r s' hq => ?_)
  obtain ⟨rfl, h2, h3, h4⟩ := hq
  exact ⟨.inl ⟨.bool true, .bool true, [], rfl, fun _ => rfl, .bool true, post_true l _, fun _ => ⟨List.Pairwise.nil, fun _ hm => (nomatch hm)⟩⟩, h2, h3, h4⟩

/-! ### rules over ANY heap (no ledger) from facts about the written part K: the library's own take a ledger (News) for what they write -/
section
variable {prog : Program} {w : World} {A : Around} {E : Value → Shared → Prop} {s : Shared} {K : Frag}

def ledger (h : Heap) (L d : Addr) : List (Addr × Obj) := (List.range h.objs.size).filterMap fun a => if a = L ∨ a = d then none else (h.get? a).map fun o => (a, o)
end
end Att

namespace L2
open PySem PySem.Spec PyProof.Rows

theorem vals_ints : ∀ {vs : List Value} {ns : List Int}, IntsAre vs ns → Vals (ns.map V.int) vs
  | _, _, .nil => .nil
  | _, _, .cons n t h => .cons ⟨t, rfl⟩ (vals_ints h)

/-- nothing is tracked but the script, known to the object (or it is an object of the module) -/
def Only (H : Hp) : Prop := ∀ b, H b = none ∨ ∃ o u, H b = some (.frz o u)
/-- the module's flat tuples -/
def stH (K : PySem.W.Frag) (b : Addr) : Option HO := match K.lookup b with
  | some o => (stO o).map fun vs => .frz o (.tup vs)
  | none => none
theorem stH_some {K : PySem.W.Frag} {b : Addr} {u : HO} (e : stH K b = some u) : ∃ o vs, K.lookup b = some o ∧ stO o = some vs ∧ u = .frz o (.tup vs) := by
  unfold stH at e
  split at e
  · rename_i o ho
    cases q : stO o with
    | none => rw [q] at e; cases e
    | some vs => rw [q] at e; cases e; exact ⟨o, vs, ho, q, rfl⟩
  · cases e
/-- with them -/
def wst (K : PySem.W.Frag) (H : Hp) : Hp := fun b => match H b with
  | some u => some u
  | none => stH K b
theorem wst_some {K : PySem.W.Frag} {H : Hp} {b : Addr} {u : HO} (e : H b = some u) : wst K H b = some u := by unfold wst; rw [e]
theorem wst_none {K : PySem.W.Frag} {H : Hp} {b : Addr} (e : H b = none) : wst K H b = stH K b := by unfold wst; rw [e]

/-- THE HEAD: the law's promise, at the heap behind the top. F, the promise of the law's def, may use that base is part of the heap (so K.In base, base.Ns mainGlobals mg stand in Mod) -/
theorem law_call {P : Program} {w : World} {K : PySem.W.Frag} {mg mb : Str → Option Value} {CX : CXT} {k : Nat} {fa a : Addr} {fd : FuncData} {x : Str} {sp : Sp} {s₁ : Shared} {vs : List Value} {ns : List Int}
    (KX : K.In s₁.heap) (hns : s₁.heap.Ns mainGlobals mg) (hb : s₁.heap.Ns builtinsNs mb) (hbb : ∀ x : Str, x ≠ "__name__" → mb x = bootBuiltins x) (hlim : s₁.heap.NoLimit) (hg : s₁.gens = #[])
    (ha : s₁.heap.get? a = some { cls := .type "list", data := .seq vs.toArray }) (hi : IntsAre vs ns) (hl : ns.length ≤ sizeLine) (hr : Room k callerA)
    (F : ∀ base : Heap, K.In base → base.Ns mainGlobals mg → FnOk P w K mg base CX k fa fd [x] sp) (hbind : ∀ (s : Shared) (u : Value), BindsTo s fd ⟨[u], []⟩ [(x, u)])
    (hsp : ∀ H : Hp, Only H → SqL K H a (ns.map V.int) → sp [.ref a] H (fun v _ => v = .bl true) fun _ _ _ => False)
    (hCX : ∀ H e s', CX [] H s₁ (fun _ _ _ => False) e s' → False) :
    codeAny (model P w) callerA (.call (.ref fa) ⟨[.ref a], []⟩) (fun r s' => r = .ok (.ret (.bool true)) ∧ OldK s₁.heap s'.heap ∧ s'.os = s₁.os ∧ AllBare s'.gens) s₁ := by
  have rv := vals_ints hi
  have lenV := hi.length
  -- from an abstract heap in which nothing but the script may be tracked
  have core : ∀ H : Hp, (∀ b, H b = none ∨ ∃ o xs, H b = some (.frz o (.lst xs))) → SqL K H a (ns.map V.int) → HOk P w H s₁.heap → (∀ b, H b ≠ none → b = a) → (H a ≠ none → K.lookup a = none) →
      codeAny (model P w) callerA (.call (.ref fa) ⟨[.ref a], []⟩) (fun r s' => r = .ok (.ret (.bool true)) ∧ OldK s₁.heap s'.heap ∧ s'.os = s₁.os ∧ AllBare s'.gens) s₁ := by
    intro H hO hS hok hA hK
    have base_of : ∀ {b : Addr} {o : Obj}, s₁.heap.get? b = some o → H b = none → (hidT s₁.heap H).get? b = some o := fun e n => hidT_get e n
    have noA : ∀ {b : Addr} {o : Obj} {es : Array DictEntry} {ep : Nat}, s₁.heap.get? b = some o → o.data = .dict es ep → H b = none := fun {b o es ep} e d => by
      cases q : H b with
      | none => rfl
      | some u =>
        have e' : b = a := hA b (by rw [q]; simp)
        subst e'
        rw [ha] at e; cases e
        have d' : Data.seq vs.toArray _ = Data.dict es ep := d
        cases d'
    have nsK : ∀ {b : Addr} {m : Str → Option Value}, s₁.heap.Ns b m → (hidT s₁.heap H).Ns b m := fun {b m} ⟨o, es, ep, e, d, r⟩ => ⟨o, es, ep, base_of e (noA e d), d, r⟩
    have hKb : K.In (hidT s₁.heap H) := fun b o e => base_of (KX b o e) (by
      cases q : H b with
      | none => rfl
      | some u =>
        have e' : b = a := hA b (by rw [q]; simp)
        subst e'
        rw [hK (by rw [q]; simp)] at e; cases e)
    have hM : Mod K mg (hidT s₁.heap H) := ⟨hKb, nsK hns, ⟨mb, nsK hb, hbb⟩, let ⟨mc, h1, h2⟩ := hlim; ⟨mc, nsK h1, h2⟩⟩
    have hO2 : Only (wst K H) := fun b => by
      rcases hO b with z | ⟨o, xs, z⟩
      · rw [wst_none z]
        cases q : stH K b with
        | none => exact .inl rfl
        | some u => obtain ⟨o, vs, _, _, rfl⟩ := stH_some q; exact .inr ⟨o, _, rfl⟩
      · exact .inr ⟨o, _, wst_some z⟩
    have hok2 : HOk P w (wst K H) s₁.heap := fun b u e => by
      rcases hO b with z | ⟨o, xs, z⟩
      · rw [wst_none z] at e
        obtain ⟨o, vs, k1, k2, rfl⟩ := stH_some e
        exact ⟨KX b o k1, stO_ok (KX b o k1) k2⟩
      · have e1 := hok b _ z
        rw [wst_some z] at e
        cases e
        exact e1
    have hS2 : SqL K (wst K H) a (ns.map V.int) := by
      rcases hS with (z | ⟨o, z⟩) | z
      · exact .inl (.inl (wst_some z))
      · exact .inl (.inr ⟨o, wst_some z⟩)
      · exact .inr z
    have hsb : ∀ b o, (hidT s₁.heap H).get? b = some o → s₁.heap.get? b = some o ∧ Sb K (wst K H) b o := fun b o e => by
      obtain ⟨e1, e2⟩ := of_hidT e
      refine ⟨e1, ?_, fun vs k q => ?_⟩
      · rw [wst_none e2]
        cases q : stH K b with
        | none => exact .inl rfl
        | some u =>
          obtain ⟨o', vs, k1, _, rfl⟩ := stH_some q
          have := KX b o' k1
          rw [e1] at this
          cases this
          exact .inr ⟨_, rfl⟩
      · rw [wst_none e2]
        unfold stH
        rw [k]
        dsimp only
        rw [q]
        rfl
    have e0 : Env0 P w K mg (hidT s₁.heap H) callerA [] s₁ (wst K H) := ⟨rfl, hM, hsb, Nat.le_of_eq (hidT_size _ _), trivial, fun b hb => absurd (show b ∈ ([] : List Addr) from hb) (by simp), hok2, .of_eq hg⟩
    refine codeAny_mono ((F _ hKb (nsK hns)).run callerA [] s₁ (wst K H) ⟨[.ref a], []⟩ [.ref a] [.ref a] _ _ hr e0 (hbind s₁ (.ref a)) (.cons rfl .nil) (hsp _ hO2 hS2)) fun r s' h => ?_
    cases r with
    | error e => exact (hCX _ e s' h).elim
    | ok fl =>
      cases fl with
      | next => exact False.elim h
      | brk => exact False.elim h
      | cont => exact False.elim h
      | ret u =>
        obtain ⟨v, H', os, bare, un, hok', r', q⟩ := h
        have q' : v = .bl true := q
        subst q'
        obtain rfl : u = Value.bool true := r'
        refine ⟨rfl, OldK.of_keep fun b o e => ?_, os, bare⟩
        rcases hO2 b with q | ⟨ob, u, z⟩
        · exact un.keep b o e q (by intro z; exact absurd (show b ∈ ([] : List Addr) from z) (by simp)) (by simp)
        · have z2 := un.frzs b ob _ z
          obtain ⟨e1, _⟩ := hok2 b _ z
          obtain ⟨e2, _⟩ := hok' b _ z2
          rw [e] at e1; cases e1
          exact e2
  cases hk : K.lookup a with
  | some o =>
    -- the script is one of the module's own objects
    have e := KX a o hk
    rw [ha] at e
    cases e
    refine core (fun _ => none) (fun _ => .inl rfl) (.inr ⟨_, vs.toArray, _, hk, rfl, rfl, rfl, by rw [List.size_toArray, lenV]; exact hl, by simpa using rv⟩) (fun b u z => by have z' : (none : Option HO) = some u := z; cases z') (fun b z => absurd rfl z) fun z => absurd rfl z
  | none =>
    refine core (fun b => if b = a then some (.frz { cls := .type "list", data := .seq vs.toArray } (.lst (ns.map V.int))) else none) (fun b => ?_) (.inl (.inr ⟨{ cls := .type "list", data := .seq vs.toArray }, if_pos rfl⟩)) (fun b u z => ?_) (fun b z => ?_) fun _ => hk
    · by_cases hb : b = a
      · exact .inr ⟨_, _, if_pos hb⟩
      · exact .inl (if_neg hb)
    · by_cases hb : b = a
      · have z' := (if_pos hb).symm.trans z
        cases z'
        subst hb
        exact ⟨ha, by rw [List.length_map]; exact hl, vs, _, rv, ha⟩
      · have z' := (if_neg hb).symm.trans z
        cases z'
    · by_cases hb : b = a
      · exact hb
      · exact absurd (if_neg hb) z
end L2

namespace L2
open PySem PySem.Spec PyProof.Rows

abbrev KOf {K : PySem.W.Frag} {h : Heap} (_ : K.In h) : PySem.W.Frag := K

/-- the goal that k_head leaves (case hc), from the law's promise. F gives the function object fd (K's own) once, then the promise over every base -/
theorem walk_of {l : PySem.W.OpenLaw} {n k : Nat} {q : Program} {loose : List Str} {XP : (Str → Option Value) → Heap → Prop} {YP : World → Heap → Prop} {d : DefRec} {K : Params → PySem.W.Frag} {CX : World → CXT} {sp : World → Sp} {x : Str}
    (hn : l.most = some n) (hn2 : n ≤ sizeLine) (hdf : d.params.defaults = []) (hr : Room k callerA)
    (hY : ∀ (w : World) (h : Heap), YP w h → (K w.params).In h)
    (F : ∀ (w : World) (mg : Str → Option Value) (fa : Addr) (h : Heap), (K w.params).In h → h.Ns mainGlobals mg → mg d.name = some (.ref fa) →
      ∃ fd : FuncData, (∀ (s : Shared) (u : Value), BindsTo s fd ⟨[u], []⟩ [(x, u)]) ∧
        ∀ base : Heap, (K w.params).In base → base.Ns mainGlobals mg → FnOk l.prog w (K w.params) mg base (CX w) k fa fd [x] (sp w))
    (hsp : ∀ (w : World) (H : Hp) (a : Addr) (ns : List Int), ns.length ≤ n → Only H → SqL (K w.params) H a (ns.map V.int) → sp w [.ref a] H (fun v _ => v = .bl true) fun _ _ _ => False)
    (hCX : ∀ (w : World) (H : Hp) (s : Shared) (e : Value) (s' : Shared), CX w [] H s (fun _ _ _ => False) e s' → False) :
    PySem.W.WalkO q loose XP YP l.row.toRowW d [] (fun f vs => PySem.call f vs) := by
  refine Att.attach_call hn hdf fun w s₀ s₁ mg mb fa o pm cd doc a vs ns G Y ho hd hcd hmg hobj hints hlen hg => ?_
  have KX := hY w _ Y
  obtain ⟨fd, hb, hF⟩ := F w mg fa _ KX G.T.g hmg
  exact law_call KX G.T.g G.T.b G.T.builtins G.T.nolimit hg hobj hints (Nat.le_trans hlen hn2) hr hF hb (fun H hO hS => hsp w H a ns hlen hO hS) fun H e s' => hCX w H s₁ e s'
end L2

/- THE LAST THEOREM (shape; LID, My.* are yours):
   My.Adr: a structure of the addresses that your layer names (classes, functions); My.Txt K t: a structure (Prop) of the equations over K;
   My.txt_mk : {K} {implicit addresses ..} (e1 : nsIn K mainGlobals "law" = some (some (.ref f))) (e2 : K.lookup f = some ⟨oc, od, .func (fnOf "law" "law" params body scope dV kV doc pm an cdv ct), sl⟩) (e3 : codeIn K cdv "law" = true) .. : ∃ t, My.Txt K t

set_option maxRecDepth 100000 in
set_option maxHeartbeats 0 in
theorem PySem.Challenge.cw_LID_holds : PySem.Challenge.rw_LID.Holds := by
  w_on; o_law; k_head; (case hw => w_witness2)
  k_fill
  refine L2.walk_of (l := PySem.Challenge.rw_LID) (n := 63) (k := 40) (x := "script") (CX := fun w => ..) (sp := fun _ => My.sp_law) rfl (by decide) rfl ⟨rfl, by decide, by decide⟩ (fun w h Y => PySem.W.kIn_of Y) ?F ?S ?C
  case F =>
    intro w mg fa h KX G hmg
    have T : ∃ t, My.Txt (L2.KOf KX) t := by
      dsimp only [L2.KOf]                          -- K must stand as «<heap const> w.params» for k_is
      refine' My.txt_mk ?e1 ?e2 ?e3 ..
      (case e1 => PySem.W.k_is)                    -- in the order: a name -> its address -> its object -> its parts
      (case e2 => PySem.W.k_is)
      ..
    obtain ⟨t, T⟩ := T
    have e0 := hmg.symm.trans (PySem.W.mg_of KX G T.law)
    cases e0                                       -- fa is the law's own address
    exact ⟨_, fun s u => .of_eq rfl, fun base kb nb => My.law_fn T kb nb⟩     -- if «.of_eq rfl» comes too early: refine' ⟨_, ?b, fun base kb nb => My.law_fn T kb nb⟩; exact fun s u => .of_eq rfl
  case S => exact fun w H a ns hl hO hS => ..
  case C => exact ..
(the tactic k_is has no namespace: write k_is) -/

/-! SHORT WORDS over the layer: a def of the text, its body, what a loop and a test want. -/
namespace L2
open PySem PySem.Spec PyProof.Rows

def defArgs (s : Stmt) : Arguments := match s with
  | .FunctionDef _ a _ _ _ _ _ _ _ _ => a
  | _ => { posonlyargs := [], args := [], vararg := none, kwonlyargs := [], kw_defaults := [], kwarg := none, defaults := [] }
def defBody (s : Stmt) : List Stmt := match s with
  | .FunctionDef _ _ b _ _ _ _ _ _ _ => b
  | _ => []
def defScope (s : Stmt) : Scope := match s with
  | .FunctionDef _ _ _ _ _ _ sc _ _ _ => sc
  | _ => { kind := .function, names := [], isGenerator := false, isCoroutine := false }

/-! ### no exception leaves a def -/
abbrev CX0 : CXT := fun _ _ _ _ _ _ => False
/-! ### a def (or method) of the text as it stands behind the top -/
structure Fun (K : PySem.W.Frag) (x qual : Str) (st : Stmt) (f : Addr) (fd : FuncData) : Prop where
  ex : ∃ (oc : Value) (od : Option Addr) (kV doc pm : Value) (an : Option Addr) (cdv ct : Value) (osl : Array (Option Value)),
    fd = PySem.W.fnOf x qual (defArgs st) (defBody st) (defScope st) .none kV doc pm an cdv ct ∧ K.lookup f = some ⟨oc, od, .func fd, osl⟩ ∧ PySem.W.codeIn K cdv qual = true
  kp : PySem.W.keepIn K (.ref f) = true
section
variable {P : Program} {w : World} {K : PySem.W.Frag} {mg : Str → Option Value} {base : Heap}
/-- THE RULE for a def: its body as a term of rules, and the reading of that term -/
theorem Fun.ok {x qual : Str} {st : Stmt} {f : Addr} {fd : FuncData} {N ps : List Str} {k : Nat} {sp : Sp} (F : Fun K x qual st f fd) (S : FnScope N ps (defScope st)) (len : ∀ vs H Q E, sp vs H Q E → vs.length = ps.length)
    (hbody : ∀ (cdv : Value) (A : Around) (outer : List Env) (s : Shared) (H : Hp) (vs : List V) (Q : VK) (E : XK), Room k (A.deeper (envOfC qual (defScope st) s.heap.objs.size f cdv)) → sp vs H Q E →
      ∃ t, PSs (cxOf CX0 P w K mg base N qual (defScope st) f cdv A outer s H E).nox (defBody st) t ∧ t { nx := fun _ H' => Q .non H', rt := Q } (start N vs) H) : FnOk P w K mg base CX0 (k + 1) f fd ps sp := by
  obtain ⟨oc, od, kV, doc, pm, an, cdv, ct, osl, rfl, lk, hcd⟩ := F.ex
  refine fn_of lk hcd S len fun A outer s H vs Q E hr hsp => ?_
  obtain ⟨t, h, q⟩ := hbody cdv A outer s H vs Q E hr hsp
  exact ⟨t, h.nox, q⟩
/-- how its arguments bind (no defaults): h is «fun _ _ _ _ _ _ us hl => match us, hl with | [_, _], _ => rfl», one _ a parameter -/
theorem Fun.binds {x qual : Str} {st : Stmt} {f : Addr} {fd : FuncData} {ps : List Str} (F : Fun K x qual st f fd)
    (h : ∀ (kV doc pm : Value) (an : Option Addr) (cdv ct : Value) (us : List Value), us.length = ps.length → bindArgs (PySem.W.fnOf x qual (defArgs st) (defBody st) (defScope st) .none kV doc pm an cdv ct) ⟨us, []⟩ = pure (ps.zip us)) : Binds K fd ps [] := by
  obtain ⟨oc, od, kV, doc, pm, an, cdv, ct, osl, rfl, lk, hcd⟩ := F.ex
  exact .all (h kV doc pm an cdv ct)
theorem fun_mk {x qual : Str} {st : Stmt} {f : Addr} {oc : Value} {od an : Option Addr} {osl : Array (Option Value)} {kV doc pm cdv ct : Value} (l : K.lookup f = some ⟨oc, od, .func (PySem.W.fnOf x qual (defArgs st) (defBody st) (defScope st) .none kV doc pm an cdv ct), osl⟩)
    (c : PySem.W.codeIn K cdv qual = true) (k : PySem.W.keepIn K (.ref f) = true) : Fun K x qual st f (PySem.W.fnOf x qual (defArgs st) (defBody st) (defScope st) .none kV doc pm an cdv ct) := ⟨⟨oc, od, kV, doc, pm, an, cdv, ct, osl, rfl, l, c⟩, k⟩
end
/-! ### expressions in short: the name that stands in the i-th slot -/
section
variable {X : Cx}
end

/-! ### tests -/
theorem iteF {A B : Prop} (h : B) : if false = true then A else B := by
  rw [if_neg Bool.false_ne_true]
  exact h
theorem iteT {A B : Prop} (h : A) : if true = true then A else B := by
  rw [if_pos rfl]
  exact h
/-! ### heaps -/
/-- all that was tracked is as it was -/
def Same (H H' : Hp) : Prop := ∀ b o, H b = some o → H' b = some o
theorem Same.refl (H : Hp) : Same H H := fun _ _ h => h
theorem Same.trans {H H1 H2 : Hp} (a : Same H H1) (b : Same H1 H2) : Same H H2 := fun c o h => b c o (a c o h)
theorem Same.free {H H' : Hp} (e : Same H H') {l : Addr} (h : H' l = Option.none) : H l = Option.none := by
  cases q : H l with
  | none => rfl
  | some o =>
    rw [e l o q] at h
    cases h
theorem Same.seq {K : PySem.W.Frag} {H H' : Hp} {a : Addr} {xs : List V} (e : Same H H') (h : SqL K H a xs) : SqL K H' a xs := by
  rcases h with (h | ⟨o, h⟩) | h
  · exact .inl (.inl (e _ _ h))
  · exact .inl (.inr ⟨o, e _ _ h⟩)
  · exact .inr h

end L2
set_option Elab.async false
set_option linter.all false
set_option maxRecDepth 100000
namespace L2
open PySem PySem.Spec PyProof.Rows

end L2

namespace L2
open PySem PySem.Spec PyProof.Rows

section
variable (P : Program) (w : World)
end

section
variable {P : Program} {w : World} {H H' : Hp} {h h' : Heap} {a : Addr} {o : HO}
end

section
variable {P : Program} {w : World} {H : Hp} {h h' : Heap} {x e : Addr} {o' : HO}
end

section
variable {fs fs' ex ex' : List Addr} {H H1 H2 : Hp} {h h1 h2 h' : Heap} {a x e : Addr} {o : HO}
end

end L2

namespace L2
open PySem PySem.Spec PyProof.Rows

section
variable {X : Cx} {pins : List (Addr × Obj)} {σ : List (Option V)} {H H' : Hp} {s : Shared} {h' : Heap}

end

end L2

namespace L2
open PySem PySem.Spec PyProof.Rows
section
variable {X : Cx}

variable {a b : Expr} {ta tb : TE} {pos : Pos}
variable {tA tB' : TT} {rest : List Expr}
end
end L2

namespace L2
open PySem PySem.Spec PyProof.Rows

section
variable {X : Cx} {pins : List (Addr × Obj)} {σ : St} {H : Hp} {s : Shared} {a : Addr} {xs ys : List V}
end

section
variable {X : Cx} {pins : List (Addr × Obj)} {σ : St} {H : Hp} {s : Shared} {E : Value → Shared → Prop}
end

section
variable {X : Cx} {st : Stmt} {rest : List Stmt} {t u : TS} {e : Expr} {te : TE} {pos : Pos}
end

section
variable {X : Cx} {pos : Pos}
end

section
variable {X : Cx} {pos : Pos}
end

end L2

namespace L2
open PySem PySem.Spec PyProof.Rows
section
variable {X : Cx} {tg : Expr}
end

end L2

namespace L2
open PySem PySem.Spec PyProof.Rows

section
variable {X : Cx} {a b c : Expr} {ta tb tc : TE} {pos : Pos}

end

section
variable {X : Cx} {a b c : Expr} {ta tb tc : TE} {pos : Pos}
end
end L2

namespace L2
open PySem PySem.Spec PyProof.Rows

section
variable {prog : Program} {w : World} {A : Around} {E : Value → Shared → Prop} {s : Shared} {K : PySem.W.Frag} {x dx C f : Addr} {mA : Str → Option Value} {name : Str} {v : Value}

end

section
variable {P : Program} {w : World} {H H' : Hp} {h h' : Heap} {a C dx : Addr} {fs fs' : List (Str × V)}
end

section
variable {X : Cx} {pins : List (Addr × Obj)} {σ : St} {H : Hp} {s : Shared} {a C dx : Addr} {fs : List (Str × V)} {f : Str} {v : V} {A : Around} {E : Value → Shared → Prop}

end

section
variable {X : Cx} {o e value : Expr} {f : Str} {pos pos' tpos : Pos} {ta tv : TE}
end

section
variable {X : Cx} {pins : List (Addr × Obj)} {σ : St} {H : Hp} {s : Shared} {A : Around} {E : Value → Shared → Prop} {Q : Value → Shared → Prop} {c : Value} {b : Bool}
end
end L2

namespace L2
open PySem PySem.Spec PyProof.Rows

section
variable {X : Cx} {e : Expr} {es : List Expr} {te : TE} {t : TA} {pos : Pos}
end

section
variable {X : Cx} {pins : List (Addr × Obj)} {σ : St} {H : Hp} {s s' : Shared}
end

section
variable {X : Cx} {CX : CXT} {k : Nat} {f C : Addr} {fd : FuncData} {ps : List Str} {sp : Sp} {dvs : List V} {ds : List Value} {E : XK} {x m : Str} {p pos apos : Pos} {e o : Expr} {es : List Expr} {ta : TE} {t : TA}

end

section
variable {X : Cx} {CX : CXT} {k : Nat} {f C : Addr} {fd : FuncData} {ps ks : List Str} {sp : Sp} {E : XK} {x m : Str} {p pos apos kpos : Pos} {e o : Expr} {es : List Expr} {kws : List Keyword} {te ta : TE} {t tk : TA} {nm : Option Str}
variable {g : List Value → List Value → List Value} {gV : List V → List V → List V}
end

end L2

namespace L2
open PySem PySem.Spec PyProof.Rows
section
variable {X : Cx} {x : Str} {p pos : Pos} {e : Expr} {es : List Expr} {t : TA} {id T : String} {r : List V → Hp → VK → Prop}

end
end L2

namespace L2
open PySem PySem.Spec PyProof.Rows

section
variable {κ : Type} [DecidableEq κ]
def valV (kvs : List (κ × V)) (k : κ) : Option V := (kvs.find? fun kv => decide (kv.1 = k)).map (·.2)
def putK (kvs : List (κ × V)) (k : κ) (v : V) : List (κ × V) :=
  if (kvs.any fun kv => decide (kv.1 = k)) = true then kvs.map (fun kv => if kv.1 = k then (kv.1, v) else kv) else kvs ++ [(k, v)]
theorem valV_pos {p : κ × V} {r : List (κ × V)} {k : κ} (e : p.1 = k) : valV (p :: r) k = some p.2 := by simp [valV, List.find?_cons, e]
theorem valV_neg {p : κ × V} {r : List (κ × V)} {k : κ} (e : ¬ p.1 = k) : valV (p :: r) k = valV r k := by simp [valV, List.find?_cons, e]
theorem valV_any (k : κ) : ∀ kvs : List (κ × V), (kvs.any fun kv => decide (kv.1 = k)) = (valV kvs k).isSome
  | [] => rfl
  | p :: r => by
    rw [List.any_cons]
    by_cases e : p.1 = k
    · simp only [valV_pos e, decide_eq_true e, Bool.true_or, Option.isSome_some]
    · rw [valV_neg e, decide_eq_false e, Bool.false_or]; exact valV_any k r
theorem length_putK (kvs : List (κ × V)) (k : κ) (v : V) : (putK kvs k v).length ≤ kvs.length + 1 := by
  unfold putK
  split
  · rw [List.length_map]; omega
  · rw [List.length_append, List.length_cons, List.length_nil]; omega
theorem RelO.isSome_eq {o : Option V} {u : Option Value} (r : RelO o u) : o.isSome = u.isSome := by
  cases o with
  | none => cases u with
    | none => rfl
    | some _ => exact (show False from r).elim
  | some _ => cases u with
    | none => exact (show False from r).elim
    | some _ => rfl
theorem RelO.getD {o : Option V} {u : Option Value} {d : V} {d' : Value} (r : RelO o u) (rd : RelV d d') : RelV (o.getD d) (u.getD d') := by
  cases o with
  | none => cases u with
    | none => exact rd
    | some _ => exact (show False from r).elim
  | some _ => cases u with
    | none => exact (show False from r).elim
    | some _ => exact r

theorem KV.val {kvs : List (κ × V)} {vs : List (κ × Value)} (r : KV kvs vs) (k : κ) : RelO (valV kvs k) (valueAt vs k) := by
  unfold KV at r
  induction r with
  | nil => exact True.intro
  | @cons p q ps qs h t ih =>
    obtain ⟨h1, h2⟩ := h
    by_cases e : p.1 = k
    · have e' : q.1 = k := h1.symm.trans e
      have b : valueAt (q :: qs) k = some q.2 := by simp [valueAt, List.find?_cons, e']
      rw [valV_pos e, b]; exact h2
    · have e' : ¬ q.1 = k := fun z => e (h1.trans z)
      have b : valueAt (q :: qs) k = valueAt qs k := by simp [valueAt, List.find?_cons, e']
      rw [valV_neg e, b]; exact ih
theorem KV.any {kvs : List (κ × V)} {vs : List (κ × Value)} (r : KV kvs vs) (k : κ) : (kvs.any fun kv => decide (kv.1 = k)) = vs.any fun kv => decide (kv.1 = k) := by
  unfold KV at r
  induction r with
  | nil => rfl
  | cons h t ih => rw [List.any_cons, List.any_cons, ih, h.1]
theorem KV.repl {kvs : List (κ × V)} {vs : List (κ × Value)} (r : KV kvs vs) (k : κ) {y : V} {u : Value} (ry : RelV y u) :
    KV (kvs.map fun kv => if kv.1 = k then (kv.1, y) else kv) (vs.map fun kv => if kv.1 = k then (kv.1, u) else kv) := by
  unfold KV at r ⊢
  induction r with
  | nil => exact .nil
  | @cons p q ps qs h t ih =>
    rw [List.map_cons, List.map_cons]
    refine .cons ?_ ih
    obtain ⟨h1, h2⟩ := h
    by_cases e : p.1 = k
    · rw [if_pos e, if_pos (h1.symm.trans e)]; exact ⟨h1, ry⟩
    · rw [if_neg e, if_neg (fun z => e (h1.trans z))]; exact ⟨h1, h2⟩
theorem KV.put {kvs : List (κ × V)} {vs : List (κ × Value)} (r : KV kvs vs) (k : κ) {y : V} {u : Value} (ry : RelV y u) : KV (putK kvs k y) (stored vs k u) := by
  unfold putK stored
  rw [r.any k]
  by_cases e : (vs.any fun kv => decide (kv.1 = k)) = true
  · rw [if_pos e, if_pos e]; exact r.repl k ry
  · rw [if_neg e, if_neg e]; exact Paired.snoc r ⟨rfl, ry⟩
theorem KV.keys {kvs : List (κ × V)} {vs : List (κ × Value)} (r : KV kvs vs) : kvs.map (·.1) = vs.map (·.1) := by
  unfold KV at r
  induction r with
  | nil => rfl
  | cons h t ih => rw [List.map_cons, List.map_cons, ih, h.1]
theorem KV.length {kvs : List (κ × V)} {vs : List (κ × Value)} (r : KV kvs vs) : kvs.length = vs.length := Paired.length r
end


theorem kV_is {P : Program} {w : World} {k : Key} {u : Value} (r : RelV (kV k) u) : (mixKind P w).is k u = true := by
  cases k with
  | inl i => obtain ⟨t, e⟩ := (show ∃ t, u = Value.int i t from r); subst e; exact mixKind_int P w i t
  | inr x => obtain ⟨t, e⟩ := (show ∃ t, u = Value.str x t from r); subst e; exact mixKind_str P w x t
theorem items_are {P : Program} {w : World} : ∀ {ks : List Key} {us : List Value}, Vals (ks.map kV) us → ItemsAre (mixKind P w) ks us
  | [], _, r => by rw [List.map_nil] at r; cases r; exact .nil
  | k :: ks, _, r => by
    rw [List.map_cons] at r
    cases r with
    | cons h t => exact .cons (kV_is h) (items_are t)

abbrev KT (H : Hp) : List (List Key × V) → List (List Key × Addr × Value) → Prop := Paired fun p q => p.1 = q.1 ∧ H q.2.1 = some (.tup (p.1.map kV)) ∧ RelV p.2 q.2.2
theorem KT.val {H : Hp} {kvs : List (List Key × V)} {xs : List (List Key × Addr × Value)} (r : KT H kvs xs) (k : List Key) : RelO (valV kvs k) ((atKey xs k).map (·.2)) := by
  induction r with
  | nil => exact True.intro
  | @cons p q ps qs h t ih =>
    obtain ⟨h1, _, h2⟩ := h
    by_cases e : p.1 = k
    · have e' : q.1 = k := h1.symm.trans e
      have b : atKey (q :: qs) k = some q.2 := by simp [atKey, List.find?_cons, e']
      rw [valV_pos e, b]; exact h2
    · have e' : ¬ q.1 = k := fun z => e (h1.trans z)
      have b : atKey (q :: qs) k = atKey qs k := by simp [atKey, List.find?_cons, e']
      rw [valV_neg e, b]; exact ih
theorem KT.repl {H : Hp} {kvs : List (List Key × V)} {xs : List (List Key × Addr × Value)} (r : KT H kvs xs) (k : List Key) {y : V} {u : Value} (ry : RelV y u) :
    KT H (kvs.map fun kv => if kv.1 = k then (kv.1, y) else kv) (xs.map (putAt k u)) := by
  induction r with
  | nil => exact .nil
  | @cons p q ps qs h t ih =>
    rw [List.map_cons, List.map_cons]
    refine .cons ?_ ih
    obtain ⟨h1, h2, h3⟩ := h
    unfold putAt
    by_cases e : p.1 = k
    · rw [if_pos e, if_pos (h1.symm.trans e)]; exact ⟨h1, h2, ry⟩
    · rw [if_neg e, if_neg (fun z => e (h1.trans z))]; exact ⟨h1, h2, h3⟩
theorem KT.put {H : Hp} {kvs : List (List Key × V)} {xs : List (List Key × Addr × Value)} (r : KT H kvs xs) (k : List Key) {b : Addr} {y : V} {u : Value} (hb : H b = some (.tup (k.map kV))) (ry : RelV y u) :
    KT H (putK kvs k y) (storedH xs k b u) := by
  have e : (kvs.any fun kv => decide (kv.1 = k)) = (atKey xs k).isSome := by
    rw [valV_any, (r.val k).isSome_eq, Option.isSome_map]
  unfold putK storedH
  rw [e]
  by_cases q : (atKey xs k).isSome = true
  · rw [if_pos q, if_pos q]; exact r.repl k ry
  · rw [if_neg q, if_neg q]; exact Paired.snoc r ⟨rfl, hb, ry⟩
theorem KT.keeps {H H' : Hp} {kvs : List (List Key × V)} {xs : List (List Key × Addr × Value)} (r : KT H kvs xs) (ht : ∀ b ys, H b = some (.tup ys) → H' b = some (.tup ys)) : KT H' kvs xs :=
  Paired.mapP r fun _ _ z => ⟨z.1, ht _ _ z.2.1, z.2.2⟩

section
variable {P : Program} {w : World} {H : Hp} {h : Heap} {a : Addr}
theorem rd_of {u : HO} (ok : HOk P w H h) (e : Rd H a u) : ObjOk P w H h a u := e.ok ok
theorem dk_rd {kvs : List (Key × V)} (ok : HOk P w H h) (e : Rd H a (.dK kvs)) : kvs.length ≤ sizeLine ∧ (a == sysModules) = false ∧ ∃ vs, KV kvs vs ∧ h.DictOf (mixKind P w) a vs :=
  show ObjOk P w H h a (.dK kvs) from rd_of ok e
theorem dk_of {kvs : List (Key × V)} (ok : HOk P w H h) (e : H a = some (.dK kvs)) : kvs.length ≤ sizeLine ∧ (a == sysModules) = false ∧ ∃ vs, KV kvs vs ∧ h.DictOf (mixKind P w) a vs := dk_rd ok (.inl e)
theorem key_of {ks : List Key} (ok : HOk P w H h) (e : H a = some (.tup (ks.map kV))) : (tupleKind (mixKind P w)).is h ks a := by
  obtain ⟨_, its, r, o, h1, h2, n, h3⟩ := (show ObjOk P w H h a (.tup (ks.map kV)) from ok a _ e)
  exact ⟨o, its.toArray, n, h1, h2, h3, by simpa using items_are r⟩
theorem dt_rd {kvs : List (List Key × V)} (ok : HOk P w H h) (e : Rd H a (.dT kvs)) : kvs.length ≤ sizeLine ∧ (a == sysModules) = false ∧
    ∃ xs, KT H kvs xs ∧ h.DictOfH (tupleKind (mixKind P w)) a xs := by
  obtain ⟨z, y, xs, r, o, es, ep, h1, h2, h3, h4, h5⟩ := (show ObjOk P w H h a (.dT kvs) from rd_of ok e)
  refine ⟨z, y, xs, r, o, es, ep, h1, h2, h3, h4, fun x hx => ?_, h5⟩
  have all : ∀ {l : List (List Key × V)} {m : List (List Key × Addr × Value)}, KT H l m → ∀ x ∈ m, (tupleKind (mixKind P w)).is h x.1 x.2.1 := by
    intro l m q
    induction q with
    | nil => intro x hx; exact nomatch hx
    | @cons p q ps qs hq t ih =>
      intro x hx
      rcases List.mem_cons.mp hx with e | hx
      · subst e
        exact key_of ok (by rw [← hq.1]; exact hq.2.1)
      · exact ih x hx
  exact all r x hx
end

def DGet (H : Hp) (a : Addr) (y : V) (r : Option V) : Prop :=
  (∃ kvs k, Rd H a (.dK kvs) ∧ y = kV k ∧ r = valV kvs k) ∨ ∃ kvs k b, Rd H a (.dT kvs) ∧ y = .ref b ∧ H b = some (.tup (k.map kV)) ∧ r = valV kvs k
def DPut (H : Hp) (a : Addr) (y v : V) (H' : Hp) : Prop :=
  (∃ kvs k, H a = some (.dK kvs) ∧ y = kV k ∧ kvs.length < sizeLine ∧ H' = upd H a (.dK (putK kvs k v))) ∨
  ∃ kvs k b, H a = some (.dT kvs) ∧ y = .ref b ∧ H b = some (.tup (k.map kV)) ∧ kvs.length < sizeLine ∧ H' = upd H a (.dT (putK kvs k v))
theorem DGet.k {H : Hp} {a : Addr} {kvs : List (Key × V)} {k : Key} (e : H a = some (.dK kvs)) : DGet H a (kV k) (valV kvs k) := .inl ⟨kvs, k, .inl e, rfl, rfl⟩
theorem DGet.t {H : Hp} {a b : Addr} {kvs : List (List Key × V)} {k : List Key} (e : H a = some (.dT kvs)) (eb : H b = some (.tup (k.map kV))) : DGet H a (.ref b) (valV kvs k) := .inr ⟨kvs, k, b, .inl e, rfl, eb, rfl⟩
theorem DPut.k {H : Hp} {a : Addr} {kvs : List (Key × V)} {k : Key} {v : V} (e : H a = some (.dK kvs)) (hl : kvs.length < sizeLine) : DPut H a (kV k) v (upd H a (.dK (putK kvs k v))) := .inl ⟨kvs, k, e, rfl, hl, rfl⟩
theorem DPut.t {H : Hp} {a b : Addr} {kvs : List (List Key × V)} {k : List Key} {v : V} (e : H a = some (.dT kvs)) (eb : H b = some (.tup (k.map kV))) (hl : kvs.length < sizeLine) :
    DPut H a (.ref b) v (upd H a (.dT (putK kvs k v))) := .inr ⟨kvs, k, b, e, rfl, eb, hl, rfl⟩


section
variable {X : Cx} {pins : List (Addr × Obj)} {σ : St} {H : Hp} {s : Shared} {a : Addr} {y v : V} {u r : Value} {o : Option V} {A : Around} {E : Value → Shared → Prop}

theorem Inv.big (I : Inv X pins σ H s) : sysModules < s.heap.objs.size := by
  have h : mainGlobals < s.heap.objs.size := (I.mod.glob.keeps I.bk).lt
  exact Nat.lt_trans (by decide) h

theorem d_getItem {Q : Value → Shared → Prop} (hu : A.units + 1 < cLine) (I : Inv X pins σ H s) (g : DGet H a y (some v)) (ry : RelV y u) (h : ∀ w' s', Inv X pins σ H s' → RelV v w' → Q w' s') :
    wpAny (model X.prog X.w) A (getItem (.ref a) u) Q E s := by
  rcases g with ⟨kvs, k, e, ey, l⟩ | ⟨kvs, k, b, e, ey, eb, l⟩
  · subst ey
    obtain ⟨z, hd, vs, rel, dd⟩ := dk_rd I.hok e
    obtain ⟨w', hw, rw'⟩ := RelO.some_of (v := v) (o := valueAt vs k) (by rw [l]; exact rel.val k)
    exact wpAny_getItem_of (kV_is ry) dd.mapOf hw (h w' _ (I.tok _) rw')
  · subst ey
    cases (show u = Value.ref b from ry)
    obtain ⟨z, hd, xs, rel, dd⟩ := dt_rd I.hok e
    obtain ⟨w', hw, rw'⟩ := RelO.some_of (v := v) (o := (atKey xs k).map (·.2)) (by rw [l]; exact rel.val k)
    obtain ⟨p, hp, hp2⟩ := Option.map_eq_some_iff.mp hw
    refine wpAny_getItem_heap (tupleKind_room_in1 hu) (key_of I.hok eb) dd hp ?_
    rw [hp2]
    exact h w' _ (I.tok _) rw'
theorem d_write {h' : Heap} {t' : Nat} {ob : HO} (I : Inv X pins σ H s) (mu : Mut (H a)) (hs : Heap.SameBut a s.heap h') (he : ∃ q, h'.get? a = some q) (new : ObjOk X.prog X.w (upd H a ob) h' a ob) :
    Inv X pins σ (upd H a ob) { s with heap := h', toks := t' } :=
  I.write (x := a) (e := a) mu (.inl rfl) (fun b q hb z => (hs.2 b hb).trans z) he new
theorem dk_new {P : Program} {w : World} {H' : Hp} {h' : Heap} {kvs : List (Key × V)} {vs : List (Key × Value)} (z : kvs.length ≤ sizeLine) (hd : (a == sysModules) = false) (rel : KV kvs vs) (dd : h'.DictOf (mixKind P w) a vs) :
    ObjOk P w H' h' a (.dK kvs) := ⟨z, hd, vs, rel, dd⟩
end

section
variable {X : Cx} {pins : List (Addr × Obj)} {σ : St} {H : Hp} {s : Shared} {a : Addr} {kvs : List (Key × V)} {k : Key} {u : Value} {A : Around} {E : Value → Shared → Prop}
end


def NoSl (i : Expr) : Prop := ∀ ov iv, subscripted i false ov iv = operate [ov, iv] (getItem ov iv)
theorem subD_of {prog : Program} {w : World} {A : Around} {E : Value → Shared → Prop} {s : Shared} {env : Env} {value slice : Expr} {pos : Pos} {T id : String} {Q : Value → Shared → Prop}
    (hl : typeLookup (.type T) "__getitem__" = pure (some (.builtin id))) (hs : NoSl slice)
    (h : wpAny (model prog w) A (eval value env) (fun o s₁ => wpAny (model prog w) A (eval slice env) (fun i s₂ => s₂.TypeIs o T ∧ wpAny (model prog w) A (getItem o i) Q E s₂) E s₁) E s) :
    wpAny (model prog w) A (eval (.Subscript value slice pos) env) Q E s := by
  refine Subscript_ (wpAny_mono h (fun o s₁ h₁ => wpAny_mono h₁ (fun i s₂ h₂ => ?_) fun _ _ x => x) fun _ _ x => x)
  obtain ⟨hT, h₂⟩ := h₂
  unfold subscriptTail
  refine wpAny_bind ?_
  rw [getitemInPython_of_ne hT.not_modules]
  refine wpAny_bind (wpAny_specialOf hT hl ?_)
  have fin : wpAny (model prog w) A (subscripted slice false o i) (fun r s₃ => wpAny (model prog w) A (letTemporaryGo value o r >>= fun _ => pure r) Q E s₃) E s₂ := by
    rw [hs o i]
    exact wpAny_operating (wpAny_mono h₂ (fun r s₃ h₃ => wpAny_bind (wpAny_letTemporaryGo (wpAny_pure h₃))) fun _ _ x => x)
  first
    | exact wpAny_pure (wpAny_bind fin)
    | exact wpAny_bind (wpAny_pure (wpAny_bind fin))
    | exact wpAny_bind fin

theorem dict_typeIs {X : Cx} {pins : List (Addr × Obj)} {σ : St} {H : Hp} {s : Shared} {a : Addr} {y : V} {o : Option V} (I : Inv X pins σ H s) (g : DGet H a y o) : s.TypeIs (.ref a) "dict" := by
  rcases g with ⟨kvs, k, e, _, _⟩ | ⟨kvs, k, b, e, _, _, _⟩
  · obtain ⟨_, _, vs, _, dd⟩ := dk_rd I.hok e
    exact dd.typeIs
  · obtain ⟨_, _, xs, _, dd⟩ := dt_rd I.hok e
    exact dd.typeIs
def tDGet (td ty : TE) : TE := fun σ H Q => td σ H fun x H1 => ty σ H1 fun y H2 => ∃ a v, x = .ref a ∧ DGet H2 a y (some v) ∧ Q v H2
section
variable {X : Cx} {o i e value : Expr} {pos pos' tpos : Pos} {td ty tv : TE}
theorem pe_dget (hu : X.A.units + 1 < cLine) (ho : PE X o td) (hi : PE X i ty) (hs : NoSl i) : PE X (.Subscript o i pos) (tDGet td ty) := by
  intro pins s σ H Q I h
  refine subD_of PySem.F.slot_dict_getitem.lookup hs (thn (ho pins s σ H _ I h) fun u s1 ⟨x, H1, I1, rx, q1⟩ => thn (hi pins s1 σ H1 _ I1 q1) fun iv s2 ⟨y, H2, I2, ry, a, v, ex, g, q2⟩ => ?_)
  subst ex
  obtain rfl : u = Value.ref a := rx
  exact ⟨dict_typeIs I2 g, d_getItem hu I2 g ry fun w' s3 I3 rw' => ⟨v, H2, I3, rw', q2⟩⟩
end


theorem dk_empty {P : Program} {w : World} {H : Hp} (h : Heap) (hb : sysModules < h.objs.size) : ObjOk P w H (h.push { cls := .type "dict", data := .dict #[] }) h.objs.size (.dK []) :=
  ⟨Nat.zero_le _, beq_eq_false_iff_ne.mpr (Ne.symm (Nat.ne_of_lt hb)), [], .nil, Heap.DictOf.new h⟩
section
variable {X : Cx} {pos : Pos}
end

def tPairs : List (TE × TE) → St → Hp → (List (V × V) → Hp → Prop) → Prop
  | [], _, H, Q => Q [] H
  | (tk, tv) :: r, σ, H, Q => tk σ H fun x H1 => tv σ H1 fun y H2 => tPairs r σ H2 fun ps H3 => Q ((x, y) :: ps) H3
abbrev VV : List (V × V) → List (Value × Value) → Prop := Paired fun p q => RelV p.1 q.1 ∧ RelV p.2 q.2
def PPs (X : Cx) (pos : Pos) (keys : List (Option Expr)) (values : List Expr) (trs : List (TE × TE)) : Prop :=
  ∀ (pins : List (Addr × Obj)) (s : Shared) (σ : St) (H : Hp) (Q : List (V × V) → Hp → Prop), Inv X pins σ H s → tPairs trs σ H Q →
    wpAny (model X.prog X.w) X.A (evalPairs (pairTrees keys values X.env pos)) (fun vs s' => ∃ ps H', Inv X pins σ H' s' ∧ VV ps vs ∧ Q ps H') X.xe s
theorem pps_nil {X : Cx} {pos : Pos} : PPs X pos [] [] [] := fun pins s σ H Q I h => pairTrees_nil_walk ⟨[], H, I, .nil, h⟩
theorem pps_cons {X : Cx} {pos : Pos} {k v : Expr} {ks : List (Option Expr)} {vs : List Expr} {tk tv : TE} {trs : List (TE × TE)} (hk : PE X k tk) (hv : PE X v tv) (hr : PPs X pos ks vs trs) :
    PPs X pos (some k :: ks) (v :: vs) ((tk, tv) :: trs) := fun pins s σ H Q I h =>
  pairTrees_cons_walk (thn (hk pins s σ H _ I h) fun u s1 ⟨x, H1, I1, rx, q1⟩ => thn (hv pins s1 σ H1 _ I1 q1) fun w2 s2 ⟨y, H2, I2, ry, q2⟩ =>
    thn (hr pins s2 σ H2 _ I2 q2) fun ws s3 ⟨ps, H3, I3, rel, q3⟩ => ⟨(x, y) :: ps, H3, I3, .cons ⟨rx, ry⟩ rel, q3⟩)

def mergeK (kvs more : List (Key × V)) : List (Key × V) := more.foldl (fun acc kv => putK acc kv.1 kv.2) kvs
theorem KV.merge : ∀ {more : List (Key × V)} {rs : List (Key × Value)} {kvs : List (Key × V)} {vs : List (Key × Value)}, KV more rs → KV kvs vs → KV (mergeK kvs more) (merged vs rs) := by
  intro more rs kvs vs r
  unfold KV at r
  induction r generalizing kvs vs with
  | nil => intro q; exact q
  | @cons p q ps qs h t ih =>
    intro r0
    have e : KV (putK kvs p.1 p.2) (stored vs q.1 q.2) := by
      have := r0.put p.1 h.2
      rw [← h.1]; exact this
    exact ih e
theorem length_mergeK : ∀ (more kvs : List (Key × V)), (mergeK kvs more).length ≤ kvs.length + more.length
  | [], kvs => by show kvs.length ≤ kvs.length + 0; omega
  | p :: r, kvs => by
    have h1 := length_mergeK r (putK kvs p.1 p.2)
    have h2 := length_putK kvs p.1 p.2
    show (mergeK (putK kvs p.1 p.2) r).length ≤ _
    rw [List.length_cons]; omega
theorem carries_of {P : Program} {w : World} : ∀ {kvs : List (Key × V)} {ws : List (Value × Value)}, VV (kvs.map fun kv => (kV kv.1, kv.2)) ws → ∃ rs, Carries (mixKind P w) ws rs ∧ KV kvs rs
  | [], _, r => by rw [List.map_nil] at r; cases r; exact ⟨[], True.intro, .nil⟩
  | p :: kvs, _, r => by
    rw [List.map_cons] at r
    cases r with
    | @cons a b as bs h t =>
      obtain ⟨rs, c, q⟩ := carries_of (P := P) (w := w) t
      obtain ⟨b1, b2⟩ := b
      exact ⟨(p.1, b2) :: rs, ⟨kV_is h.1, rfl, c⟩, .cons ⟨rfl, h.2⟩ q⟩
def tDisp (trs : List (TE × TE)) : TE := fun σ H Q => ∀ p, H p = none → tPairs trs σ (upd H p (.dK [])) fun ps H2 => H2 p = some (.dK []) ∧ ∃ kvs : List (Key × V), ps = kvs.map (fun kv => (kV kv.1, kv.2)) ∧ kvs.length ≤ 15 ∧ Q (.ref p) (upd H2 p (.dK (mergeK [] kvs)))
theorem pe_disp {X : Cx} {pos : Pos} {keys : List (Option Expr)} {values : List Expr} {trs : List (TE × TE)} (h : PPs X pos keys values trs) (hall : keys.all (·.isSome) = true) (hl : keys.length = values.length) (h0 : keys ≠ [])
    (h15 : keys.length ≤ 15) : PE X (.Dict keys values pos) (tDisp trs) := by
  intro pins s σ H Q I q
  have hn := I.hok.fresh (Nat.le_refl s.heap.objs.size)
  have I1 := I.laid (a := s.heap.objs.size) (o := .dK []) (h' := s.heap.push { cls := .type "dict", data := .dict #[] }) (t' := s.toks) (fun _ _ q => Heap.get?_push_of_some _ q) (Nat.le_refl _) (dk_empty s.heap I.big)
  refine wpAny_Dict_walk (knd := mixKind X.prog X.w) hall hl h0 h15 (thn (h pins _ σ _ _ I1 (q _ hn)) fun ws s2 ⟨ps, H2, I2, rel, e, kvs, ep, lk, q2⟩ => ?_)
  subst ep
  obtain ⟨rs, c, rk⟩ := carries_of (P := X.prog) (w := X.w) rel
  obtain ⟨z, hd, vs0, r0, dd⟩ := dk_of I2.hok e
  cases r0
  refine ⟨rs, c, dd, fun h' dd' hs => ⟨.ref s.heap.objs.size, _, ?_, rfl, q2⟩⟩
  have hz : (mergeK [] kvs).length ≤ sizeLine := by
    have h1 := length_mergeK kvs []
    rw [List.length_nil] at h1
    rw [sizeLine_eq]; omega
  have he : ∃ q, h'.get? s.heap.objs.size = some q := let ⟨q, _, _, hq, _⟩ := dd'; ⟨q, hq⟩
  exact d_write I2 (by rw [e]; exact True.intro) hs he (dk_new hz hd (rk.merge .nil) dd')


structure M2 (X : Cx) (o : Expr) (m : Str) (apos : Pos) (e f : Expr) (cpos : Pos) : Prop where
  base : attributeBase o m X.env (eval o X.env) = eval o X.env
  few : ((backTo cpos (starEach [e, f] X.env)).all (fun x => !x.1) && (backToKw cpos (keywordEach [] X.env)).all (fun x => x.1.isSome)
    && decide (([e, f] : List Expr).length + ([] : List Keyword).length + (if ([] : List Keyword).isEmpty then 0 else 1) < 30)) = true
  line : (apos.endLine == cpos.line) = true
  trees : backTo cpos (starEach [e, f] X.env) = [(false, eval e X.env), (false, eval f X.env)]

def IsD (H : Hp) (a : Addr) : Prop := (∃ kvs, Rd H a (.dK kvs)) ∨ ∃ kvs, Rd H a (.dT kvs)
theorem isD_at {X : Cx} {pins : List (Addr × Obj)} {σ : St} {H : Hp} {s : Shared} {a : Addr} (I : Inv X pins σ H s) (d : IsD H a) :
    s.TypeIs (.ref a) "dict" ∧ (∀ b, Value.ref a = .ref b → ∃ ob, s.heap.get? b = some ob ∧ ob.dict = none) ∧ (a == sysModules) = false := by
  rcases d with ⟨kvs, e⟩ | ⟨kvs, e⟩
  · obtain ⟨_, hd, vs, _, dd⟩ := dk_rd I.hok e
    refine ⟨dd.typeIs, fun b q => ?_, hd⟩
    cases q
    obtain ⟨ob, _, _, h1, h2, _⟩ := dd
    exact ⟨ob, h1, h2.2.1⟩
  · obtain ⟨_, hd, xs, _, dd⟩ := dt_rd I.hok e
    refine ⟨dd.typeIs, fun b q => ?_, hd⟩
    cases q
    obtain ⟨ob, _, _, h1, h2, _⟩ := dd
    exact ⟨ob, h1, h2.2.1⟩

section
variable {X : Cx} {pins : List (Addr × Obj)} {σ : St} {H : Hp} {s : Shared} {a : Addr} {y d : V} {u r : Value} {o : Option V} {A : Around} {E : Value → Shared → Prop}
theorem d_get2 {Q : Value → Shared → Prop} (hu : A.units + 1 < cLine) (I : Inv X pins σ H s) (g : DGet H a y o) (ry : RelV y u) (rd : RelV d r) (h : ∀ w' s', Inv X pins σ H s' → RelV (o.getD d) w' → Q w' s') :
    wpAny (model X.prog X.w) A (call (.builtin "dict.get") [.ref a, u, r]) Q E s := by
  rcases g with ⟨kvs, k, e, ey, l⟩ | ⟨kvs, k, b, e, ey, eb, l⟩
  · subst ey
    obtain ⟨z, hd, vs, rel, dd⟩ := dk_rd I.hok e
    refine call_meetsIn PySem.F.slot_dict_get dd.typeIs PySem.F.entry_dict_get (PySem.F.args_dict_get_3 _ _ _) (meets_dict_get_default (mixKind X.prog X.w) a (kV_is ry) hd r) ⟨_, dd.mapOf, h _ _ (I.tok _) ?_⟩
    rw [l]
    exact (rel.val k).getD rd
  · subst ey
    cases (show u = Value.ref b from ry)
    obtain ⟨z, hd, xs, rel, dd⟩ := dt_rd I.hok e
    refine call_meetsIn PySem.F.slot_dict_get dd.typeIs PySem.F.entry_dict_get (PySem.F.args_dict_get_3 _ _ _) (meetsH_dict_get_default (tupleKind (mixKind X.prog X.w)) a b hd r) ⟨tupleKind_room_in1 hu, k, xs, key_of I.hok eb, dd, h _ _ (I.tok _) ?_⟩
    rw [l]
    exact (rel.val k).getD rd
end

def tDGet2 (td ty tx : TE) : TE := fun σ H Q => td σ H fun x H1 => ∃ a, x = .ref a ∧ IsD H1 a ∧ ty σ H1 fun y H2 => tx σ H2 fun z H3 => ∃ o, DGet H3 a y o ∧ Q (o.getD z) H3
section
variable {X : Cx} {o e f : Expr} {apos cpos : Pos} {td ty tx : TE}
theorem pe_dget2 (hu : X.A.units + 1 < cLine) (ho : PE X o td) (he : PE X e ty) (hf : PE X f tx) (m : M2 X o "get" apos e f cpos) : PE X (.Call (.Attribute o "get" apos) [e, f] [] cpos) (tDGet2 td ty tx) := by
  intro pins s σ H Q I h
  refine wpAny_Call_method m.base m.few m.line PySem.F.plainAttrs_dict PySem.F.slot_dict_get PySem.F.type_dict_get (thn (ho pins s σ H _ I h) fun u s1 ⟨x, H1, I1, rx, a, ex, d, q1⟩ => ?_)
  subst ex
  obtain rfl : u = Value.ref a := rx
  obtain ⟨t1, t2, _⟩ := isD_at I1 d
  refine ⟨t1, t2, ?_⟩
  rw [m.trees]
  refine Calls.callWith_builtin rfl (Calls.evalArgs_plain (Calls.spliced_cons (thn (he pins s1 σ H1 _ I1 q1) fun iv s2 ⟨y, H2, I2, ry, q2⟩ =>
    Calls.spliced_cons (thn (hf pins s2 σ H2 _ I2 q2) fun fv s3 ⟨z, H3, I3, rz, ov, g, q3⟩ => Calls.spliced_nil ?_))))
  exact d_get2 hu I3 g ry rz fun w' s4 I4 rw' => ⟨_, H3, I4, rw', q3⟩
end

section
variable {X : Cx} {pins : List (Addr × Obj)} {σ : St} {H : Hp} {s : Shared} {a : Addr} {kvs : List (Key × V)} {A : Around} {E : Value → Shared → Prop}
end


section
variable {X : Cx} {pins : List (Addr × Obj)} {σ : St} {H : Hp} {s : Shared} {a : Addr} {y : V} {u : Value} {A : Around} {E : Value → Shared → Prop}
end
end L2

namespace Att
open PySem PySem.W PySem.Calls PyProof.Rows

section
variable {prog : Program} {w : World} {A : Around} {E : Value → Shared → Prop} {s : Shared} {K : Frag}

end
end Att

namespace L2
open PySem PySem.Spec PyProof.Rows

end L2

namespace L2
open PySem PySem.Spec PyProof.Rows

end L2

namespace L2
open PySem PySem.Spec PyProof.Rows

section
variable {P : Program} {w : World} {K : PySem.W.Frag} {mg : Str → Option Value} {base : Heap}
end
section
variable {X : Cx}
end

section
variable {κ : Type} [DecidableEq κ]
end
end L2
set_option Elab.async false
set_option linter.all false
set_option maxRecDepth 100000
/-! KT: what expressions, statements and defs are worth, as plain functions over data (PyData). No heap here. -/
namespace KT
open PySem

/-! ### data without lists -/
mutual
def lf : PyData → Bool
  | .none => true
  | .bool _ => true
  | .int _ => true
  | .str _ => true
  | .tuple xs => lfs xs
  | .list _ => false
  | .dict _ => false
def lfs : List PyData → Bool
  | [] => true
  | x :: xs => lf x && lfs xs
end

/-! ### environments -/
/-- what a name holds: a parameter's datum, a local's (its lists are younger than the def's entry), a list of the def's own (not shared), one whose items may be lists that stay, a caught error -/
inductive Slot where
  | par (d : PyData)
  | loc (d : PyData)
  | own (ds : List PyData)
  | own2 (ds : List PyData)
  | dct (ks : List PyData)
  | lent (ds : List PyData)
  | ex (c : Nat)
abbrev Rho := List (Option Slot)
/-- what an expression is worth: a datum and how young its lists are (0: nothing is known; 1: younger than the def's entry; 2: younger than the statement's start), or an error by its class -/
inductive RE where
  | ok (l : Nat) (d : PyData)
  | exc (c : Nat)
/-- what a call is worth -/
inductive RC where
  | ok (d : PyData)
  | exc (c : Nat)
/-- a row of data: arguments, or what a loop walks -/
inductive RI where
  | ok (l : Nat) (ds : List PyData)
  | exc (c : Nat)
/-- what a statement leads to -/
inductive RS where
  | next (ρ : Rho)
  | ret (d : PyData)
  | exc (c : Nat) (ρ : Rho)
  | brk (ρ : Rho)
  | cont (ρ : Rho)
abbrev FE := Rho → Option RE
abbrev FI := Rho → Option RI
abbrev FS := Rho → Option RS
abbrev FC := List PyData → Option RC
def bindE (o : Option RE) (k : Nat → PyData → Option RE) : Option RE :=
  match o with
  | none => none
  | some (.exc c) => some (.exc c)
  | some (.ok l d) => k l d
def big : Nat := 100000
def lim : Nat := 2 ^ 256

/-! ### constants, names, operations -/
def eC (d : PyData) : FE := fun _ => some (.ok 2 d)
def eVar (i : Nat) : FE := fun ρ => match ρ[i]? with
  | some (some (.par d)) => some (.ok 0 d)
  | some (some (.loc d)) => some (.ok 1 d)
  | some (some (.own ds)) => some (.ok 1 (.list ds))
  | some (some (.own2 ds)) => some (.ok 1 (.list ds))
  | some (some (.lent ds)) => some (.ok 1 (.list ds))
  | _ => none
/-- fr: what it makes holds lists that are new alone -/
def e2 (op : PyData → PyData → Option PyData) (fr : Bool) (fa fb : FE) : FE := fun ρ => bindE (fa ρ) fun l x => bindE (fb ρ) fun m y => (op x y).map fun d => .ok (if fr then 2 else min l m) d
def e1 (op : PyData → Option PyData) (fr : Bool) (fa : FE) : FE := fun ρ => bindE (fa ρ) fun l x => (op x).map fun d => .ok (if fr then 2 else l) d
def dAdd : PyData → PyData → Option PyData
  | .int i, .int j => some (.int (i + j))
  | .str x, .str y => if x.length + y.length ≤ big then some (.str (x ++ y)) else none
  | .tuple xs, .tuple ys => if (lfs xs && lfs ys && decide (xs.length + ys.length ≤ big)) = true then some (.tuple (xs ++ ys)) else none
  | .list xs, .list ys => if (lfs xs && lfs ys && decide (xs.length + ys.length ≤ big)) = true then some (.list (xs ++ ys)) else none
  | _, _ => none
def dSub : PyData → PyData → Option PyData
  | .int i, .int j => some (.int (i - j))
  | _, _ => none
def CMulD (i j : Int) : Prop := i.natAbs < 2 ^ 64 ∨ j.natAbs < 2 ^ 64 ∨ (i.natAbs < lim ∧ j.natAbs < lim)
instance (i j : Int) : Decidable (CMulD i j) := by unfold CMulD; infer_instance
def dMul : PyData → PyData → Option PyData
  | .int i, .int j => if CMulD i j then some (.int (i * j)) else none
  | .list xs, .int k => if (lfs xs && decide (xs.length * k.toNat ≤ big) && decide (k.natAbs ≤ big)) = true then some (.list (List.replicate k.toNat xs).flatten) else none
  | _, _ => none
def dDiv : PyData → PyData → Option PyData
  | .int i, .int j => if 0 < j ∧ j.natAbs < lim then some (.int (i / j)) else none
  | _, _ => none
def dMod : PyData → PyData → Option PyData
  | .int i, .int j => if 0 < j then some (.int (i % j)) else none
  | _, _ => none
def dPow : PyData → PyData → Option PyData
  | .int i, .int j => if 0 ≤ j ∧ j ≤ 1000 ∧ i.natAbs < 2 ^ 64 then some (.int (i ^ j.toNat)) else none
  | _, _ => none
def dNeg : PyData → Option PyData
  | .int i => some (.int (-i))
  | _ => none
def eqOk (x y : PyData) : Bool := x.canLay0 && y.canLay0 && decide (min x.depth y.depth ≤ 60)
def dEqB : PyData → PyData → Option Bool
  | .int i, .int j => some (i == j)
  | .str i, .str j => some (i == j)
  | .bool i, .bool j => some (i == j)
  | x, y => if eqOk x y = true then some (PyData.eqv x y) else none
def dEq (x y : PyData) : Option PyData := (dEqB x y).map .bool
def dNe (x y : PyData) : Option PyData := (dEqB x y).map fun b => .bool (!b)
def dLt : PyData → PyData → Option PyData
  | .int i, .int j => some (.bool (decide (i < j)))
  | _, _ => none
def dLe : PyData → PyData → Option PyData
  | .int i, .int j => some (.bool (decide (i ≤ j)))
  | _, _ => none
def dGt : PyData → PyData → Option PyData
  | .int i, .int j => some (.bool (decide (j < i)))
  | _, _ => none
def dGe : PyData → PyData → Option PyData
  | .int i, .int j => some (.bool (decide (j ≤ i)))
  | _, _ => none
def inOk (x : PyData) (ys : List PyData) : Bool := x.canLay0 && PyData.canLayAll0 ys && decide (min (PyData.depthAll ys) x.depth ≤ 60)
def dInB : PyData → PyData → Option Bool
  | x, .tuple ys => if inOk x ys = true then some (ys.any fun y => PyData.eqv y x) else none
  | x, .list ys => if inOk x ys = true then some (ys.any fun y => PyData.eqv y x) else none
  | _, _ => none
def dIn (x y : PyData) : Option PyData := (dInB x y).map .bool
def dNotIn (x y : PyData) : Option PyData := (dInB x y).map fun b => .bool (!b)
def isNone : PyData → Bool
  | .none => true
  | _ => false
def dIsN (x y : PyData) : Option PyData := if isNone y = true then some (.bool (isNone x)) else none
def ixP (n : Nat) (i : Int) : Option Nat := if 0 ≤ i then (if i < n then some i.toNat else none) else if -(n : Int) ≤ i then some (i + n).toNat else none
def atP {α : Type} (xs : List α) (i : Int) : Option α := (ixP xs.length i).bind fun j => xs[j]?
def dIx : PyData → PyData → Option PyData
  | .tuple xs, .int i => atP xs i
  | .list xs, .int i => atP xs i
  | .str z, .int i => if z.length ≤ big then (atP z.cps.toList i).map fun c => .str ⟨#[c]⟩ else none
  | _, _ => none
def sxP (n d : Nat) : Option Int → Nat
  | none => d
  | some v => if v < 0 then (v + n).toNat else min v.toNat n
def cutP {α : Type} (xs : List α) (lo hi : Option Int) : List α := (xs.drop (sxP xs.length 0 lo)).take (sxP xs.length xs.length hi - sxP xs.length 0 lo)
def dSl (lo hi : Option Int) : PyData → Option PyData
  | .tuple xs => if lfs xs = true then some (.tuple (cutP xs lo hi)) else none
  | .list xs => if lfs xs = true then some (.list (cutP xs lo hi)) else none
  | _ => none
def eAdd : FE → FE → FE := e2 dAdd true
def eSub : FE → FE → FE := e2 dSub true
def eMul : FE → FE → FE := e2 dMul true
def eDiv : FE → FE → FE := e2 dDiv true
def eMod : FE → FE → FE := e2 dMod true
def ePow : FE → FE → FE := e2 dPow true
def eNeg : FE → FE := e1 dNeg true
def eEq : FE → FE → FE := e2 dEq true
def eNe : FE → FE → FE := e2 dNe true
def eLt : FE → FE → FE := e2 dLt true
def eLe : FE → FE → FE := e2 dLe true
def eGt : FE → FE → FE := e2 dGt true
def eGe : FE → FE → FE := e2 dGe true
def eIn : FE → FE → FE := e2 dIn true
def eNotIn : FE → FE → FE := e2 dNotIn true
def eIsN : FE → FE → FE := e2 dIsN true
def eIx : FE → FE → FE := e2 dIx false
/-- a part of a slice -/
inductive RO where
  | ok (i : Option Int)
  | exc (c : Nat)
abbrev FO := Rho → Option RO
def oNone : FO := fun _ => some (.ok none)
def oSome (f : FE) : FO := fun ρ => match f ρ with
  | some (.ok _ (.int i)) => some (.ok (some i))
  | some (.exc c) => some (.exc c)
  | _ => none
def eSl (f : FE) (lo hi : FO) : FE := fun ρ => bindE (f ρ) fun _ x => match lo ρ with
  | some (.ok l) => (match hi ρ with
    | some (.ok h) => (dSl l h x).map fun d => .ok 2 d
    | some (.exc c) => some (.exc c)
    | none => none)
  | some (.exc c) => some (.exc c)
  | none => none
/-- {"a": c, ..}[x], {"a": c, ..}.get(x, y) -/
def eDix (kvs : List (Str × PyData)) (f : FE) : FE := fun ρ => bindE (f ρ) fun _ x => match x with
  | .str z => (kvs.lookup z).map fun d => .ok 2 d
  | _ => none
def eDget (kvs : List (Str × PyData)) (f fx : FE) : FE := fun ρ => bindE (f ρ) fun _ x => bindE (fx ρ) fun l y => match x with
  | .str z => (match kvs.lookup z with
    | some d => some (.ok 2 d)
    | none => some (.ok l y))
  | .int _ => some (.ok l y)
  | _ => none
/-! ### and, or, not, if -/
def eAnd (fa fb : FE) : FE := fun ρ => bindE (fa ρ) fun _ x => match x with
  | .bool true => fb ρ
  | .bool false => some (.ok 2 (.bool false))
  | _ => none
def eOr (fa fb : FE) : FE := fun ρ => bindE (fa ρ) fun _ x => match x with
  | .bool true => some (.ok 2 (.bool true))
  | .bool false => fb ρ
  | _ => none
def eNot (fa : FE) : FE := fun ρ => bindE (fa ρ) fun _ x => match x with
  | .bool b => some (.ok 2 (.bool (!b)))
  | _ => none
def eIf (fc fa fb : FE) : FE := fun ρ => bindE (fc ρ) fun _ x => match x with
  | .bool true => fa ρ
  | .bool false => fb ρ
  | _ => none
/-! ### rows, displays, calls -/
def eArgs : List FE → FI
  | [], _ => some (.ok 2 [])
  | f :: fs, ρ => match f ρ with
    | none => none
    | some (.exc c) => some (.exc c)
    | some (.ok l d) => match eArgs fs ρ with
      | none => none
      | some (.exc c) => some (.exc c)
      | some (.ok m ds) => some (.ok (min l m) (d :: ds))
def bindI (o : Option RI) (k : Nat → List PyData → Option RE) : Option RE :=
  match o with
  | none => none
  | some (.exc c) => some (.exc c)
  | some (.ok l ds) => k l ds
def eTup (fs : List FE) : FE := fun ρ => bindI (eArgs fs ρ) fun l ds => some (.ok l (.tuple ds))
def eLst (fs : List FE) : FE := fun ρ => bindI (eArgs fs ρ) fun _ ds => if lfs ds = true then some (.ok 2 (.list ds)) else none
def ofRC : Option RC → Option RE
  | none => none
  | some (.exc c) => some (.exc c)
  | some (.ok d) => some (.ok 2 d)
def eCall (g : FC) (fs : List FE) : FE := fun ρ => bindI (eArgs fs ρ) fun _ ds => ofRC (g ds)
/-! ### Python's own calls -/
def dLen : PyData → Option PyData
  | .tuple xs => some (.int xs.length)
  | .list xs => some (.int xs.length)
  | .str z => if z.length ≤ big then some (.int z.length) else none
  | _ => none
def dInt : PyData → Option PyData
  | .int i => some (.int i)
  | .bool b => some (.int (if b then 1 else 0))
  | _ => none
inductive Ty where
  | int | bool | str | tuple | list
def isTy : Ty → PyData → Bool
  | .int, .int _ => true
  | .int, .bool _ => true
  | .bool, .bool _ => true
  | .str, .str _ => true
  | .tuple, .tuple _ => true
  | .list, .list _ => true
  | _, _ => false
def dIs (t : Ty) : PyData → Option PyData
  | .dict _ => none
  | d => some (.bool (isTy t d))
def eLen : FE → FE := e1 dLen true
def eInt : FE → FE := e1 dInt true
def eIs (t : Ty) : FE → FE := e1 (dIs t) true
/-! ### what is walked -/
def iSeq (f : FE) : FI := fun ρ => match f ρ with
  | some (.ok l (.list ds)) => if lfs ds = true then some (.ok l ds) else none
  | some (.ok _ (.tuple ds)) => if lfs ds = true then some (.ok 2 ds) else none
  | some (.exc c) => some (.exc c)
  | _ => none
/-- range(a, b) -/
def iR2 (f g : FE) : FI := fun ρ => match f ρ with
  | some (.ok _ (.int a)) => (match g ρ with
    | some (.ok _ (.int b)) => if a.natAbs ≤ big ∧ b.natAbs ≤ big then some (.ok 2 ((List.range (b - a).toNat).map fun (k : Nat) => .int (a + (k : Int)))) else none
    | some (.exc c) => some (.exc c)
    | _ => none)
  | some (.exc c) => some (.exc c)
  | _ => none
/-! ### statements -/
def asg (l : Nat) (d : PyData) : Option Slot :=
  if lf d = true then some (.loc d) else if 2 ≤ l then (match d with
    | .list ds => if lfs ds = true then some (.own ds) else some (.loc d)
    | _ => some (.loc d)) else none
def bindS (o : Option RE) (ρ : Rho) (k : Nat → PyData → Option RS) : Option RS :=
  match o with
  | none => none
  | some (.exc c) => some (.exc c ρ)
  | some (.ok l d) => k l d
def sNext : FS := fun ρ => some (.next ρ)
def sSeq (a b : FS) : FS := fun ρ => match a ρ with
  | some (.next ρ') => b ρ'
  | r => r
def sSet (i : Nat) (f : FE) : FS := fun ρ => bindS (f ρ) ρ fun l d => (asg l d).map fun s => .next (ρ.set i (some s))
def sExpr (f : FE) : FS := fun ρ => bindS (f ρ) ρ fun _ _ => some (.next ρ)
def sRet (f : FE) : FS := fun ρ => bindS (f ρ) ρ fun l d => if (lf d || decide (1 ≤ l)) = true then some (.ret d) else none
def sIf (c : FE) (a b : FS) : FS := fun ρ => bindS (c ρ) ρ fun _ d => match d with
  | .bool true => a ρ
  | .bool false => b ρ
  | _ => none
def sAppend (i : Nat) (f : FE) : FS := fun ρ => match ρ[i]? with
  | some (some (.own xs)) => bindS (f ρ) ρ fun _ d => if (lf d && decide (xs.length < big)) = true then some (.next (ρ.set i (some (.own (xs ++ [d]))))) else none
  | _ => none
def sExtend (i : Nat) (f : FE) : FS := fun ρ => match ρ[i]? with
  | some (some (.own xs)) => bindS (f ρ) ρ fun _ d => match d with
    | .list ys => if (lfs ys && decide (xs.length + ys.length ≤ big)) = true then some (.next (ρ.set i (some (.own (xs ++ ys))))) else none
    | .tuple ys => if (lfs ys && decide (xs.length + ys.length ≤ big)) = true then some (.next (ρ.set i (some (.own (xs ++ ys))))) else none
    | _ => none
  | _ => none
/-- x_j = x_i.pop() -/
def sPop (j i : Nat) : FS := fun ρ => match ρ[i]? with
  | some (some (.own xs)) => (match xs[xs.length - 1]? with
    | some d => if i = j then none else some (.next ((ρ.set i (some (.own xs.dropLast))).set j (some (.loc d))))
    | none => none)
  | _ => none
def sRaise (c : Nat) : FS := fun ρ => some (.exc c ρ)
/-- targets of a loop or an assignment -/
abbrev FT := PyData → Rho → Option Rho
def tgName (i : Nat) : FT := fun d ρ => some (ρ.set i (some (.loc d)))
def forGo (tg : FT) (body : FS) : List PyData → Rho → Option RS
  | [], ρ => some (.next ρ)
  | d :: ds, ρ => match tg d ρ with
    | none => none
    | some ρ1 => match body ρ1 with
      | some (.next ρ2) => forGo tg body ds ρ2
      | some (.cont ρ2) => forGo tg body ds ρ2
      | some (.brk ρ2) => some (.next ρ2)
      | r => r
def sFor (it : FI) (tg : FT) (body : FS) : FS := fun ρ => match it ρ with
  | none => none
  | some (.exc c) => some (.exc c ρ)
  | some (.ok l ds) => if 2 ≤ l then forGo tg body ds ρ else none
def whileGo (c : FE) (body : FS) : Nat → Rho → Option RS
  | 0, _ => none
  | n + 1, ρ => bindS (c ρ) ρ fun _ d => match d with
    | .bool true => (match body ρ with
      | some (.next ρ') => whileGo c body n ρ'
      | some (.cont ρ') => whileGo c body n ρ'
      | some (.brk ρ') => some (.next ρ')
      | r => r)
    | .bool false => some (.next ρ)
    | _ => none
def wFuel : Nat := 100000
def sWhile (c : FE) (body : FS) : FS := fun ρ => whileGo c body wFuel ρ
/-- a caught error of a class under the named one; its name stands in slot i while the handler runs; an error of another class: not told -/
def sTry (body : FS) (sub : Nat → Bool) (i : Nat) (h : FS) : FS := fun ρ => match body ρ with
  | some (.exc c ρ') => if sub c then (match h (ρ'.set i (some (.ex c))) with
      | some (.ret d) => some (.ret d)
      | some (.next ρ2) => some (.next (ρ2.set i none))
      | _ => none) else none
  | r => r
/-- isinstance(e, C) of a caught error -/
def eIsX (i : Nat) (sub : Nat → Bool) : FE := fun ρ => match ρ[i]? with
  | some (some (.ex c)) => some (.ok 2 (.bool (sub c)))
  | _ => none
/-! ### defs -/
def runB (n : Nat) (b : FS) : FC := fun ds => match b (ds.map (fun d => some (.par d)) ++ List.replicate (n - ds.length) none) with
  | some (.ret d) => some (.ok d)
  | some (.next _) => some (.ok .none)
  | some (.exc c _) => some (.exc c)
  | _ => none
end KT
set_option Elab.async false
set_option linter.all false
set_option maxRecDepth 100000
/-! KT: data of the program as PyData, how a heap bears it, and what an expression and a statement are worth as plain functions of an environment. -/
namespace KT
open PySem L2

/-! ### how a heap bears a datum: P says which addresses its lists may have (P true: of one that is frozen) -/
abbrev PP := Bool → Addr → Prop
def Rl (P : PP) (H : Hp) (a : Addr) (vs : List V) : Prop := (P false a ∧ H a = some (.lst vs)) ∨ (P true a ∧ ∃ o, H a = some (.frz o (.lst vs)))
theorem Rl.rd {P : PP} {H : Hp} {a : Addr} {vs : List V} (h : Rl P H a vs) : Rd H a (.lst vs) := h.elim (fun x => .inl x.2) fun x => .inr x.2
theorem Rd.same {H H' : Hp} (s : Same H H') {a : Addr} {u : HO} (h : Rd H a u) : Rd H' a u := by
  rcases h with h | ⟨o, h⟩
  · exact .inl (s _ _ h)
  · exact .inr ⟨o, s _ _ h⟩
mutual
def Rep (P : PP) (H : Hp) : PyData → V → Prop
  | .none, v => v = .non
  | .bool b, v => v = .bl b
  | .int i, v => v = .int i
  | .str x, v => v = .str x
  | .tuple ds, v => ∃ a vs, v = .ref a ∧ Rd H a (.tup vs) ∧ Reps P H ds vs
  | .list ds, v => ∃ a vs, v = .ref a ∧ Rl P H a vs ∧ Reps P H ds vs
  | .dict kvs, v => ∃ a : Nat, kvs = [(.none, .int a)] ∧ v = .ref a
def Reps (P : PP) (H : Hp) : List PyData → List V → Prop
  | [], vs => vs = []
  | d :: ds, vs => ∃ v r, vs = v :: r ∧ Rep P H d v ∧ Reps P H ds r
end
mutual
theorem Rep.mono {P P' : PP} {H H' : Hp} (hT : ∀ a vs, Rd H a (.tup vs) → Rd H' a (.tup vs)) (hL : ∀ a vs, Rl P H a vs → Rl P' H' a vs) :
    ∀ (d : PyData) (v : V), Rep P H d v → Rep P' H' d v
  | .none, _, h => h
  | .bool _, _, h => h
  | .int _, _, h => h
  | .str _, _, h => h
  | .tuple ds, _, ⟨a, vs, e, h, r⟩ => ⟨a, vs, e, hT a vs h, Reps.mono hT hL ds vs r⟩
  | .list ds, _, ⟨a, vs, e, h, r⟩ => ⟨a, vs, e, hL a vs h, Reps.mono hT hL ds vs r⟩
  | .dict _, _, h => h
theorem Reps.mono {P P' : PP} {H H' : Hp} (hT : ∀ a vs, Rd H a (.tup vs) → Rd H' a (.tup vs)) (hL : ∀ a vs, Rl P H a vs → Rl P' H' a vs) :
    ∀ (ds : List PyData) (vs : List V), Reps P H ds vs → Reps P' H' ds vs
  | [], _, h => h
  | d :: ds, _, ⟨v, r, e, h, t⟩ => ⟨v, r, e, Rep.mono hT hL d v h, Reps.mono hT hL ds r t⟩
end
theorem Rl.same {P : PP} {H H' : Hp} (s : Same H H') {a : Addr} {vs : List V} (h : Rl P H a vs) : Rl P H' a vs := by
  rcases h with ⟨p, h⟩ | ⟨p, o, h⟩
  · exact .inl ⟨p, s _ _ h⟩
  · exact .inr ⟨p, o, s _ _ h⟩
theorem Rl.imp {P P' : PP} {H : Hp} (hP : ∀ z a, P z a → P' z a) {a : Addr} {vs : List V} (h : Rl P H a vs) : Rl P' H a vs := by
  rcases h with ⟨p, h⟩ | ⟨p, o, h⟩
  · exact .inl ⟨hP _ _ p, h⟩
  · exact .inr ⟨hP _ _ p, o, h⟩
theorem Rep.same {P : PP} {H H' : Hp} (s : Same H H') {d : PyData} {v : V} (h : Rep P H d v) : Rep P H' d v :=
  Rep.mono (fun _ _ e => Rd.same s e) (fun _ _ r => r.same s) d v h
theorem Reps.same {P : PP} {H H' : Hp} (s : Same H H') {d : List PyData} {v : List V} (h : Reps P H d v) : Reps P H' d v :=
  Reps.mono (fun _ _ e => Rd.same s e) (fun _ _ r => r.same s) d v h
theorem Rep.imp {P P' : PP} {H : Hp} (hP : ∀ z a, P z a → P' z a) {d : PyData} {v : V} (h : Rep P H d v) : Rep P' H d v :=
  Rep.mono (fun _ _ e => e) (fun _ _ r => r.imp hP) d v h
theorem Reps.imp {P P' : PP} {H : Hp} (hP : ∀ z a, P z a → P' z a) {d : List PyData} {v : List V} (h : Reps P H d v) : Reps P' H d v :=
  Reps.mono (fun _ _ e => e) (fun _ _ r => r.imp hP) d v h
mutual
theorem Rep.free {P P' : PP} {H H' : Hp} (hT : ∀ a vs, Rd H a (.tup vs) → Rd H' a (.tup vs)) : ∀ (d : PyData) (v : V), lf d = true → Rep P H d v → Rep P' H' d v
  | .none, _, _, h => h
  | .bool _, _, _, h => h
  | .int _, _, _, h => h
  | .str _, _, _, h => h
  | .tuple ds, _, f, ⟨a, vs, e, h, r⟩ => ⟨a, vs, e, hT a vs h, Reps.free hT ds vs (by simpa [lf] using f) r⟩
  | .list _, _, f, _ => by simp [lf] at f
  | .dict _, _, f, _ => by simp [lf] at f
theorem Reps.free {P P' : PP} {H H' : Hp} (hT : ∀ a vs, Rd H a (.tup vs) → Rd H' a (.tup vs)) : ∀ (ds : List PyData) (vs : List V), lfs ds = true → Reps P H ds vs → Reps P' H' ds vs
  | [], _, _, h => h
  | d :: ds, _, f, ⟨v, r, e, h, t⟩ => by
    have f' : lf d = true ∧ lfs ds = true := by simpa [lfs] using f
    exact ⟨v, r, e, Rep.free hT d v f'.1 h, Reps.free hT ds r f'.2 t⟩
end
theorem Rep.nl {P P' : PP} {H : Hp} {d : PyData} {v : V} (f : lf d = true) (h : Rep P H d v) : Rep P' H d v := Rep.free (fun _ _ e => e) d v f h
theorem Reps.nl {P P' : PP} {H : Hp} {d : List PyData} {v : List V} (f : lfs d = true) (h : Reps P H d v) : Reps P' H d v := Reps.free (fun _ _ e => e) d v f h
theorem Reps.length {P : PP} {H : Hp} : ∀ {ds : List PyData} {vs : List V}, Reps P H ds vs → vs.length = ds.length
  | [], _, h => by cases (show _ = _ from h); rfl
  | d :: ds, _, ⟨v, r, e, _, t⟩ => by subst e; simp [Reps.length t]
theorem Reps.get {P : PP} {H : Hp} : ∀ {ds : List PyData} {vs : List V} {i : Nat} {d : PyData}, Reps P H ds vs → ds[i]? = some d → ∃ v, vs[i]? = some v ∧ Rep P H d v
  | [], _, _, _, _, e => by simp at e
  | d :: ds, _, 0, d', ⟨v, r, e, h, t⟩, q => by subst e; simp at q; subst q; exact ⟨v, rfl, h⟩
  | d :: ds, _, i + 1, d', ⟨v, r, e, h, t⟩, q => by
    subst e
    obtain ⟨u, q1, q2⟩ := Reps.get (i := i) t (by simpa using q)
    exact ⟨u, by simpa using q1, q2⟩
theorem Reps.append {P : PP} {H : Hp} : ∀ {ds es : List PyData} {vs us : List V}, Reps P H ds vs → Reps P H es us → Reps P H (ds ++ es) (vs ++ us)
  | [], _, _, _, h, t => by cases (show _ = _ from h); exact t
  | d :: ds, _, _, _, ⟨v, r, e, h, t⟩, q => by subst e; exact ⟨v, _, rfl, h, Reps.append t q⟩
theorem Reps.one {P : PP} {H : Hp} {d : PyData} {v : V} (h : Rep P H d v) : Reps P H [d] [v] := ⟨v, [], rfl, h, rfl⟩
theorem Reps.drop {P : PP} {H : Hp} : ∀ {ds : List PyData} {vs : List V} (n : Nat), Reps P H ds vs → Reps P H (ds.drop n) (vs.drop n)
  | _, _, 0, h => h
  | [], _, n + 1, h => by cases (show _ = _ from h); exact rfl
  | d :: ds, _, n + 1, ⟨v, r, e, h, t⟩ => by subst e; exact Reps.drop n t
theorem Reps.take {P : PP} {H : Hp} : ∀ {ds : List PyData} {vs : List V} (n : Nat), Reps P H ds vs → Reps P H (ds.take n) (vs.take n)
  | _, _, 0, h => rfl
  | [], _, n + 1, h => by cases (show _ = _ from h); exact rfl
  | d :: ds, _, n + 1, ⟨v, r, e, h, t⟩ => by subst e; exact ⟨v, _, rfl, h, Reps.take n t⟩
theorem Reps.reverse {P : PP} {H : Hp} : ∀ {ds : List PyData} {vs : List V}, Reps P H ds vs → Reps P H ds.reverse vs.reverse
  | [], _, h => by cases (show _ = _ from h); exact rfl
  | d :: ds, _, ⟨v, r, e, h, t⟩ => by
    subst e
    rw [List.reverse_cons, List.reverse_cons]
    exact Reps.append (Reps.reverse t) (Reps.one h)
/-! ### a datum in the heap at hand, for what the library says of data -/
section
variable {X : Cx} {pins : List (Addr × Obj)} {σ : St} {H : Hp} {s : Shared} {P : PP}
mutual
theorem reads_of (I : Inv X pins σ H s) : ∀ (d : PyData) (v : V) (u : Value), d.canLay0 = true → Rep P H d v → RelV v u → ∃ as, Reads s.heap u d as
  | .none, _, _, _, h, r => by cases (show _ = _ from h); cases r; exact ⟨_, .none⟩
  | .bool b, _, _, _, h, r => by cases (show _ = _ from h); cases r; exact ⟨_, .bool b⟩
  | .int i, _, _, _, h, r => by cases (show _ = _ from h); obtain ⟨t, rfl⟩ := r; exact ⟨_, .int i t⟩
  | .str x, _, _, _, h, r => by cases (show _ = _ from h); obtain ⟨t, rfl⟩ := r; exact ⟨_, .str x t⟩
  | .tuple ds, _, _, c, ⟨a, vs, e, h, t⟩, r => by
    subst e; cases r
    obtain ⟨its, rs, ⟨o, ho, hc, n, hd⟩, _⟩ := I.tuple (.inl h)
    obtain ⟨as, q⟩ := readsAll_of I ds vs its (by simpa [PyData.canLay0] using c) t rs
    exact ⟨_, .tuple ho hc hd q⟩
  | .list ds, _, _, c, ⟨a, vs, e, h, t⟩, r => by
    subst e; cases r
    obtain ⟨its, rs, ⟨o, n, ho, hc, hd0, hd⟩, _⟩ := I.list (.inl h.rd)
    obtain ⟨as, q⟩ := readsAll_of I ds vs its (by simpa [PyData.canLay0] using c) t rs
    exact ⟨_, .list ho hc hd q⟩
  | .dict _, _, _, c, _, _ => by simp [PyData.canLay0] at c
theorem readsAll_of (I : Inv X pins σ H s) : ∀ (ds : List PyData) (vs : List V) (us : List Value), PyData.canLayAll0 ds = true → Reps P H ds vs → Vals vs us → ∃ as, ReadsAll s.heap us ds as
  | [], _, _, _, h, r => by cases (show _ = _ from h); cases r; exact ⟨_, .nil⟩
  | d :: ds, _, _, c, ⟨v, t, e, h, hs⟩, r => by
    subst e
    have c' : d.canLay0 = true ∧ PyData.canLayAll0 ds = true := by simpa [PyData.canLayAll0] using c
    cases r with
    | cons r1 r2 =>
      obtain ⟨as, q⟩ := reads_of I d v _ c'.1 h r1
      obtain ⟨bs, q'⟩ := readsAll_of I ds t _ c'.2 hs r2
      exact ⟨_, .cons q q'⟩
end
end

def PL (H₀ Hs : Hp) : Nat → PP
  | 0 => fun _ _ => True
  | 1 => fun z a => z = false ∧ H₀ a = none
  | _ => fun z a => z = false ∧ Hs a = none
theorem PL.le {H₀ Hs : Hp} (s : Same H₀ Hs) {l m : Nat} (h : l ≤ m) {z : Bool} {a : Addr} (p : PL H₀ Hs m z a) : PL H₀ Hs l z a := by
  match l, m with
  | 0, _ => exact trivial
  | 1, 1 => exact p
  | 1, m + 2 => exact ⟨p.1, s.free p.2⟩
  | l + 2, m + 2 => exact p
  | l + 1, 0 => omega
  | l + 2, 1 => omega
/-- a caught error of the class c: its object, with no dict of its own -/
def XRep (cv : Nat → Value) (H : Hp) (c : Nat) (a : Addr) : Prop := ∃ φ, H a = some (.ext φ) ∧ ∀ h, φ h → ∃ o, h.get? a = some o ∧ o.cls = cv c ∧ o.dict = none ∧ ∃ vs, o.data = .fields vs
theorem XRep.same {cv : Nat → Value} {H H' : Hp} {c : Nat} {a : Addr} (s : Same H H') (h : XRep cv H c a) : XRep cv H' c a := let ⟨φ, e, r⟩ := h; ⟨φ, s _ _ e, r⟩
/-- a dict of True: its keys whole numbers, or tuples within tuples -/
def DR (H : Hp) (ks : List PyData) (a : Addr) : Prop := (∃ is : List Int, ks = is.map .int ∧ H a = some (.dK (is.map fun i => (.inl i, .bl true)))) ∨ (ks ≠ [] ∧ H a = some (.dN ks))
theorem DR.same {H H' : Hp} {ks : List PyData} {a : Addr} (s : Same H H') (h : DR H ks a) : DR H' ks a := by
  rcases h with ⟨is, e, h⟩ | ⟨n, h⟩
  · exact .inl ⟨is, e, s _ _ h⟩
  · exact .inr ⟨n, s _ _ h⟩
def VS (cv : Nat → Value) (H₀ : Hp) (o : Option (Option V)) (H : Hp) : Slot → Prop
  | .par d => ∃ v, o = some (some v) ∧ Rep (fun _ _ => True) H d v
  | .loc d => ∃ v, o = some (some v) ∧ Rep (fun z a => z = false ∧ H₀ a = none) H d v
  | .own ds => ∃ v, o = some (some v) ∧ Rep (fun z a => z = false ∧ H₀ a = none) H (.list ds) v
  | .own2 ds => ∃ v, o = some (some v) ∧ Rep (fun z a => z = false ∧ H₀ a = none) H (.list ds) v
  | .lent ds => ∃ v, o = some (some v) ∧ Rep (fun z a => z = false ∧ H₀ a = none) H (.list ds) v
  | .dct ks => ∃ a, o = some (some (.ref a)) ∧ DR H ks a
  | .ex c => ∃ a, o = some (some (.ref a)) ∧ XRep cv H c a
theorem VS.same {cv : Nat → Value} {H₀ H H' : Hp} {o : Option (Option V)} (s : Same H H') : ∀ {t : Slot}, VS cv H₀ o H t → VS cv H₀ o H' t
  | .par _, ⟨v, e, h⟩ => ⟨v, e, h.same s⟩
  | .loc _, ⟨v, e, h⟩ => ⟨v, e, h.same s⟩
  | .own _, ⟨v, e, h⟩ => ⟨v, e, h.same s⟩
  | .own2 _, ⟨v, e, h⟩ => ⟨v, e, h.same s⟩
  | .lent _, ⟨v, e, h⟩ => ⟨v, e, h.same s⟩
  | .dct _, ⟨a, e, h⟩ => ⟨a, e, h.same s⟩
  | .ex _, ⟨a, e, h⟩ => ⟨a, e, h.same s⟩
/-- the world of an expression: the def's entry heap, the statement's start, the environment -/
structure G (cv : Nat → Value) (H₀ Hs : Hp) (ρ : Rho) (σ : St) (H : Hp) : Prop where
  s0 : Same H₀ Hs
  s1 : Same Hs H
  vr : ∀ (i : Nat) t, ρ[i]? = some (some t) → VS cv H₀ σ[i]? H t
theorem G.same {cv : Nat → Value} {H₀ Hs H H' : Hp} {ρ : Rho} {σ : St} (g : G cv H₀ Hs ρ σ H) (s : Same H H') : G cv H₀ Hs ρ σ H' := ⟨g.s0, g.s1.trans s, fun i t e => (g.vr i t e).same s⟩
abbrev XOF := Nat → St → Hp → Prop
/-- the error classes' values, and what is wanted of an error that leaves -/
structure XOT where
  cv : Nat → Value
  f : XOF
def KK (XO : XOT) (H₀ Hs : Hp) (σ : St) (H : Hp) (Q : VK) (r : RE) : Prop :=
  (∀ l d v H', r = .ok l d → Same H H' → Rep (PL H₀ Hs l) H' d v → Q v H') ∧ ∀ c H', r = .exc c → Same H H' → XO.f c σ H'
theorem KK.same {XO : XOT} {H₀ Hs : Hp} {σ : St} {H H' : Hp} {Q : VK} {r : RE} (k : KK XO H₀ Hs σ H Q r) (s : Same H H') : KK XO H₀ Hs σ H' Q r :=
  ⟨fun l d v H2 e t => k.1 l d v H2 e (s.trans t), fun c H2 e t => k.2 c H2 e (s.trans t)⟩
/-- the reading of an expression that is worth f -/
def tF (XO : XOT) (f : FE) : TE := fun σ H Q => ∃ H₀ Hs ρ r, G XO.cv H₀ Hs ρ σ H ∧ f ρ = some r ∧ KK XO H₀ Hs σ H Q r
theorem tF_bind {XO : XOT} {H₀ Hs : Hp} {ρ : Rho} {σ : St} {H : Hp} {Q Q' : VK} {fa : FE} {k : Nat → PyData → Option RE} {r : RE} (g : G XO.cv H₀ Hs ρ σ H) (e : bindE (fa ρ) k = some r) (kk : KK XO H₀ Hs σ H Q r)
    (cont : ∀ l d v H1, Same H H1 → G XO.cv H₀ Hs ρ σ H1 → Rep (PL H₀ Hs l) H1 d v → k l d = some r → KK XO H₀ Hs σ H1 Q r → Q' v H1) : tF XO fa σ H Q' := by
  cases h : fa ρ with
  | none => rw [h] at e; cases e
  | some x =>
    rw [h] at e
    cases x with
    | exc c =>
      cases (Option.some.inj e)
      exact ⟨H₀, Hs, ρ, .exc c, g, h, ⟨fun l d v H' e => (nomatch e), kk.2⟩⟩
    | ok l d =>
      refine ⟨H₀, Hs, ρ, .ok l d, g, h, ⟨fun l' d' v H' e' s rp => ?_, fun c H' e => (nomatch e)⟩⟩
      cases e'
      exact cont l d v H' s (g.same s) rp e (kk.same s)
theorem KK.give {XO : XOT} {H₀ Hs : Hp} {σ : St} {H : Hp} {Q : VK} {r : RE} {l : Nat} {d : PyData} {v : V} {H' : Hp} (kk : KK XO H₀ Hs σ H Q r) (e : some (RE.ok l d) = some r) (s : Same H H') (rp : Rep (PL H₀ Hs l) H' d v) : Q v H' :=
  kk.1 l d v H' (Option.some.inj e).symm s rp

/-! ### constants, names -/
section
variable {X : Cx} {XO : XOT} {a b c : Expr} {fa fb fc : FE} {pos : Pos}
theorem PE.imp {e : Expr} {t t' : TE} (h : PE X e t) (f : ∀ σ H Q, t' σ H Q → t σ H Q) : PE X e t' := fun pins s σ H Q I q => h pins s σ H Q I (f σ H Q q)
theorem PT.imp {e : Expr} {t t' : TT} (h : PT X e t) (f : ∀ σ H Q, t' σ H Q → t σ H Q) : PT X e t' := fun pins s σ H Q I q => h pins s σ H Q I (f σ H Q q)
theorem PS.imp {e : Stmt} {t t' : TS} (h : PS X e t) (f : ∀ D σ H, t' D σ H → t D σ H) : PS X e t' := fun pins s σ H D I q => h pins s σ H D I (f D σ H q)
theorem x_int {i : Int} {j pos} : PE X (.Constant (.int i) j pos) (tF XO (eC (.int i))) := PE.imp pe_int fun σ H Q ⟨H₀, Hs, ρ, r, g, e, kk⟩ => kk.give e (Same.refl _) rfl
theorem x_str {i : Str} {j pos} : PE X (.Constant (.str i) j pos) (tF XO (eC (.str i))) := PE.imp pe_str fun σ H Q ⟨H₀, Hs, ρ, r, g, e, kk⟩ => kk.give e (Same.refl _) rfl
theorem x_bl {i : Bool} {j pos} : PE X (.Constant (.bool i) j pos) (tF XO (eC (.bool i))) := PE.imp pe_bl fun σ H Q ⟨H₀, Hs, ρ, r, g, e, kk⟩ => kk.give e (Same.refl _) rfl
theorem x_non {j pos} : PE X (.Constant .none j pos) (tF XO (eC .none)) := PE.imp pe_non fun σ H Q ⟨H₀, Hs, ρ, r, g, e, kk⟩ => kk.give e (Same.refl _) rfl
theorem x_var (i : Nat) {x : Str} {pos : Pos} (hN : X.N[i]? = some x := by rfl) (hv : Vis X.env.scope x := by first | exact Or.inl rfl | exact Or.inr (Or.inl rfl) | exact Or.inr (Or.inr rfl)) (hd : (x == ("__debug__" : Str)) = false := by decide)
    (hcd : (x == ("__classdict__" : Str)) = false := by decide) : PE X (.Name x pos) (tF XO (eVar i)) := PE.imp (pe_var hN hv hd hcd) fun σ H Q ⟨H₀, Hs, ρ, r, g, e, kk⟩ => by
  unfold eVar at e
  have vr := g.vr i
  split at e
  · rename_i d hρ
    obtain ⟨v, h1, h2⟩ := vr _ hρ
    exact ⟨v, h1, kk.give e (Same.refl _) h2⟩
  · rename_i d hρ
    obtain ⟨v, h1, h2⟩ := vr _ hρ
    exact ⟨v, h1, kk.give e (Same.refl _) h2⟩
  · rename_i d hρ
    obtain ⟨v, h1, h2⟩ := vr _ hρ
    exact ⟨v, h1, kk.give e (Same.refl _) h2⟩
  · rename_i d hρ
    obtain ⟨v, h1, h2⟩ := vr _ hρ
    exact ⟨v, h1, kk.give e (Same.refl _) h2⟩
  · rename_i d hρ
    obtain ⟨v, h1, h2⟩ := vr _ hρ
    exact ⟨v, h1, kk.give e (Same.refl _) h2⟩
  · cases e

/-! ### two-place operations -/
/-- the operation r on values does what op does on data -/
def OpD (r : R2) (op : PyData → PyData → Option PyData) (fr : Bool) : Prop :=
  ∀ (H₀ Hs H : Hp) (l m : Nat) (x y d : PyData) (v u : V) (Q : VK), Same H₀ Hs → Same Hs H → op x y = some d → Rep (PL H₀ Hs l) H x v → Rep (PL H₀ Hs m) H y u →
    (∀ z H', Same H H' → Rep (PL H₀ Hs (if fr then 2 else min l m)) H' d z → Q z H') → r v u H Q
theorem e2_read {r : R2} {op : PyData → PyData → Option PyData} {fr : Bool} (ho : OpD r op fr) {σ : St} {H : Hp} {Q : VK} (h : tF XO (e2 op fr fa fb) σ H Q) : tOp r (tF XO fa) (tF XO fb) σ H Q := by
  obtain ⟨H₀, Hs, ρ, rr, g, e, kk⟩ := h
  refine tF_bind g e kk fun l x v H1 s1 g1 r1 e1 k1 => ?_
  refine tF_bind g1 e1 k1 fun m y u H2 s2 g2 r2 e2' k2 => ?_
  cases hd : op x y with
  | none => rw [hd] at e2'; cases e2'
  | some d =>
    rw [hd] at e2'
    exact ho H₀ Hs H2 l m x y d v u Q g2.s0 g2.s1 hd (r1.same s2) r2 fun z H' s rp => k2.give e2' s rp
theorem x_op {op : Operator} {r : R2} {f : PyData → PyData → Option PyData} {fr : Bool} (ho : OpR X (binaryOp op) r) (hd : OpD r f fr) (ha : PE X a (tF XO fa)) (hb : PE X b (tF XO fb)) : PE X (.BinOp a op b pos) (tF XO (e2 f fr fa fb)) :=
  PE.imp (pe_op ho ha hb) fun _ _ _ h => e2_read hd h
theorem x_cmp {op : CmpOp} {r : R2} {f : PyData → PyData → Option PyData} {fr : Bool} (ho : OpR X (compareOp op) r) (hd : OpD r f fr) (ha : PE X a (tF XO fa)) (hb : PE X b (tF XO fb)) (hm : behindInMarks op b = false) : PE X (.Compare a [op] [b] pos) (tF XO (e2 f fr fa fb)) :=
  PE.imp (pe_cmpR ho ha hb hm) fun _ _ _ h => e2_read hd h
theorem x_ix {r : R2} {f : PyData → PyData → Option PyData} {fr : Bool} (ho : IxR X r) (hd : OpD r f fr) (ha : PE X a (tF XO fa)) (hb : PE X b (tF XO fb)) (hs : PlainIx b) : PE X (.Subscript a b pos) (tF XO (e2 f fr fa fb)) :=
  PE.imp (pe_ix ho ha hb hs) fun _ _ _ h => e2_read hd h
end
end KT
set_option Elab.async false
set_option linter.all false
set_option maxRecDepth 100000
namespace KT
open PySem PySem.Spec PyProof.Rows L2

theorem same_new {H : Hp} {p : Addr} (h : H p = none) (o : HO) : Same H (upd H p o) := fun b u q => by rw [upd_ne (ne_of_none q h)]; exact q
theorem big_le : big ≤ sizeLine := by decide
theorem le_big {n : Nat} (h : n ≤ big) : n ≤ sizeLine := Nat.le_trans h big_le

section
variable {X : Cx} {XO : XOT} {a b c : Expr} {fa fb fc : FE} {pos : Pos}

/-! ### + -/
def rCatE : R2 := fun x y H Q => ∃ a b ys, x = .ref a ∧ y = .ref b ∧ Rd H a (.tup []) ∧ Rd H b (.tup ys) ∧ Q (.ref b) H
theorem op_catE : OpR X (binaryOp .Add) rCatE := by
  intro pins s σ H x y v u Q I rx ry h
  obtain ⟨a, b, ys, rfl, rfl, ha, hb, q⟩ := h
  cases rx
  cases ry
  obtain ⟨its, r1, p1, _⟩ := I.tuple (.inl ha)
  obtain ⟨its2, r2, p2, _⟩ := I.tuple (.inl hb)
  obtain ⟨⟨cls, dd, data, sl⟩, ho, hc, n, hd⟩ := id p1
  obtain ⟨⟨cls2, dd2, data2, sl2⟩, ho2, hc2, n2, hd2⟩ := id p2
  simp only at hc hd hc2 hd2
  subst hc hd hc2 hd2
  have hv : its = [] := r1.nil_iff.mpr rfl
  exact concat_meets ⟨_, ho, rfl⟩ ⟨_, ho2, rfl⟩ noFill_tuple_add seq_tuple_add PySem.F.slot_tuple_add PySem.F.entry_tuple_add (PySem.F.args_tuple_add_2 _ _)
    (tuple_addW0 a b its.toArray its2.toArray n n2 dd dd2 sl sl2 (by simp [hv])) ⟨ho, ho2, ⟨.ref b, H, I, rfl, q⟩⟩
theorem lstR {pins : List (Addr × Obj)} {σ : L2.St} {H : Hp} {s : Shared} {l : Addr} {xs : List V} (I : Inv X pins σ H s) (hH : Rd H l (.lst xs)) :
    xs.length ≤ sizeLine ∧ ∃ (its : List Value) (n : Nat), Vals xs its ∧ xs.length = its.length ∧ s.heap.get? l = some { cls := .type "list", data := .seq its.toArray n } := by
  obtain ⟨z, its, n, r, e⟩ := hH.ok I.hok
  exact ⟨z, its, n, r, r.length, e⟩
def rCatR : R2 := fun x y H Q => ∃ l b xs zs, x = .ref l ∧ y = .ref b ∧ Rd H l (.lst xs) ∧ Rd H b (.lst zs) ∧ xs.length + zs.length ≤ sizeLine ∧ ∀ p, H p = none → Q (.ref p) (upd H p (.lst (xs ++ zs)))
theorem op_catR : OpR X (binaryOp .Add) rCatR := by
  intro pins s σ H x y v u Q I rx ry h
  obtain ⟨l, b, xs, zs, rfl, rfl, hH, hB, hz, q⟩ := h
  cases rx
  cases ry
  obtain ⟨z, its, n, r, hl, e⟩ := lstR I hH
  obtain ⟨z2, its2, n2, r2, hl2, e2⟩ := lstR I hB
  refine PySem.P.add_list e e2 ?_ (by rw [List.size_toArray, List.size_toArray]; omega)
  have ea : its.toArray ++ its2.toArray = (its ++ its2).toArray := by simp
  rw [ea]
  exact ⟨.ref _, _, I.lnew (t' := s.toks) (r.append r2) (by rw [List.length_append]; omega), rfl, q _ I.fresh⟩
def rAddS : R2 := fun x y H Q => ∃ i j, x = .str i ∧ y = .str j ∧ i.length + j.length ≤ sizeLine ∧ Q (.str (i ++ j)) H
def rAddD (K : PySem.W.Frag) : R2 := fun x y H Q => rI0 (fun i j => .int (i + j)) x y H Q ∨ rAddS x y H Q ∨ rCatT K x y H Q ∨ rCatE x y H Q ∨ rCatR x y H Q
theorem op_addD : OpR X (binaryOp .Add) (rAddD X.K) := op_add.or (OpR.or op_add_str (op_catT.or (op_catE.or op_catR)))
theorem od_add {K : PySem.W.Frag} : OpD (rAddD K) dAdd true := by
  intro H₀ Hs H l m x y d v u Q s0 s1 e rx ry q
  unfold dAdd at e
  split at e
  · rename_i i j
    cases (show v = .int i from rx); cases (show u = .int j from ry); cases e
    exact .inl ⟨i, j, rfl, rfl, q _ H (Same.refl H) rfl⟩
  · rename_i x y
    split at e
    · rename_i hz
      cases (show v = .str x from rx); cases (show u = .str y from ry); cases e
      exact .inr (.inl ⟨x, y, rfl, rfl, le_big hz, q _ H (Same.refl H) rfl⟩)
    · cases e
  · rename_i xs ys
    split at e
    · rename_i hz
      simp only [Bool.and_eq_true, decide_eq_true_eq] at hz
      obtain ⟨⟨f1, f2⟩, hz⟩ := hz
      cases e
      obtain ⟨pa, vs, rfl, ha, ra⟩ := rx
      obtain ⟨pb, us, rfl, hb, rb⟩ := ry
      have l1 := ra.length
      have l2 := rb.length
      by_cases hv : vs = []
      · subst hv
        have : xs = [] := by cases xs with | nil => rfl | cons _ _ => simp at l1
        subst this
        exact .inr (.inr (.inr (.inl ⟨pa, pb, us, rfl, rfl, ha, hb, q _ H (Same.refl H) ⟨pb, us, rfl, hb, rb.nl f2⟩⟩)))
      · refine .inr (.inr (.inl ⟨pa, pb, vs, us, rfl, rfl, .inl ha, .inl hb, hv, by rw [l1, l2]; exact le_big hz, fun hu => ?_, fun hu p hp => ?_⟩))
        · subst hu
          have : ys = [] := by cases ys with | nil => rfl | cons _ _ => simp at l2
          subst this
          rw [List.append_nil] at q
          exact q _ H (Same.refl H) ⟨pa, vs, rfl, ha, ra.nl f1⟩
        · exact q _ _ (same_new hp _) ⟨p, _, rfl, (.inl upd_same), ((ra.nl f1).append (rb.nl f2)).same (same_new hp _)⟩
    · cases e
  · rename_i xs ys
    split at e
    · rename_i hz
      simp only [Bool.and_eq_true, decide_eq_true_eq] at hz
      obtain ⟨⟨f1, f2⟩, hz⟩ := hz
      cases e
      obtain ⟨pa, vs, rfl, ha, ra⟩ := rx
      obtain ⟨pb, us, rfl, hb, rb⟩ := ry
      have l1 := ra.length
      have l2 := rb.length
      refine .inr (.inr (.inr (.inr ⟨pa, pb, vs, us, rfl, rfl, ha.rd, hb.rd, by rw [l1, l2]; exact le_big hz, fun p hp => ?_⟩)))
      exact q _ _ (same_new hp _) ⟨p, _, rfl, .inl ⟨⟨rfl, s1.free hp⟩, upd_same⟩, ((ra.nl f1).append (rb.nl f2)).same (same_new hp _)⟩
    · cases e
  · cases e
theorem x_add (ha : PE X a (tF XO fa)) (hb : PE X b (tF XO fb)) : PE X (.BinOp a .Add b pos) (tF XO (eAdd fa fb)) := x_op op_addD od_add ha hb

/-! ### the other operations on ints -/
theorem od_int {C : Int → Int → Prop} {g : Int → Int → Int} {f : PyData → PyData → Option PyData} (hf : ∀ x y d, f x y = some d → ∃ i j, x = .int i ∧ y = .int j ∧ C i j ∧ d = .int (g i j)) : OpD (rI C fun i j => .int (g i j)) f true := by
  intro H₀ Hs H l m x y d v u Q s0 s1 e rx ry q
  obtain ⟨i, j, rfl, rfl, hc, rfl⟩ := hf x y d e
  cases (show v = .int i from rx); cases (show u = .int j from ry)
  exact ⟨i, j, rfl, rfl, hc, q _ H (Same.refl H) rfl⟩
theorem op_sub' : OpR X (binaryOp .Sub) (rI (fun _ _ => True) fun i j => .int (i - j)) := opI fun _ _ _ _ _ _ _ _ q => sub_int q
theorem x_sub (ha : PE X a (tF XO fa)) (hb : PE X b (tF XO fb)) : PE X (.BinOp a .Sub b pos) (tF XO (eSub fa fb)) :=
  x_op op_sub' (od_int fun x y d e => by unfold dSub at e; split at e <;> first | (cases e; exact ⟨_, _, rfl, rfl, trivial, rfl⟩) | cases e) ha hb
theorem bits_lim {i : Int} (h : i.natAbs < lim) : Builtin.Int.intBits i ≤ 2 ^ 20 := by
  unfold Builtin.Int.intBits
  split
  · exact Nat.zero_le _
  · rename_i h0
    have h1 : i.natAbs ≠ 0 := by
      intro z
      exact h0 (by simp [Int.natAbs_eq_zero.mp z])
    have h2 : i.natAbs.log2 < 256 := (Nat.log2_lt h1).mpr h
    have h3 : (256 : Nat) ≤ 2 ^ 20 := by decide
    omega
theorem CMulD.ok {i j : Int} (h : CMulD i j) : IntMulOk i j := by
  rcases h with h | h | ⟨h1, h2⟩
  · exact IntMulOk.of_left (intBits_le_64 (by omega) (by omega))
  · exact IntMulOk.of_right (intBits_le_64 (by omega) (by omega))
  · exact IntMulOk.of_bits (bits_lim h1) (bits_lim h2)
theorem op_mulI : OpR X (binaryOp .Mult) (rI CMulD fun i j => .int (i * j)) := opI fun _ _ _ _ _ _ _ hc q => mul_int q hc.ok
/-- a list times an int, of any list that is read -/
def rRepR : R2 := fun x y H Q => ∃ l k xs, x = .ref l ∧ y = .int k ∧ Rd H l (.lst xs) ∧ -(2 ^ 63) ≤ k ∧ k < 2 ^ 63 ∧ xs.length * k.toNat ≤ sizeLine ∧
  ∀ p, H p = none → Q (.ref p) (upd H p (.lst (List.replicate k.toNat xs).flatten))
theorem op_repR : OpR X (binaryOp .Mult) rRepR := by
  intro pins s σ H x y v u Q I rx ry h
  obtain ⟨l, k, xs, rfl, rfl, hH, h1, h2, hz, q⟩ := h
  cases rx
  obtain ⟨t, rfl⟩ := ry
  obtain ⟨z, its, n, r, hl, e⟩ := lstR I hH
  have hlen : its.toArray.size * k.toNat ≤ sizeLine := by rw [List.size_toArray, ← hl]; exact hz
  have hcap : ¬ its.toArray.size * k.toNat > (2 ^ 63 - 1) / 8 := by
    have : (sizeLine : Nat) ≤ (2 ^ 63 - 1) / 8 := by decide
    omega
  have hfit : ¬ (!Builtin.List.listFitsIndex k) = true := by
    rw [fitsIndex_both h1 h2]
    exact Bool.false_ne_true
  have hlong : ¬ Builtin.List.listTooLong (its.toArray.size * k.toNat) = true := by
    rw [notLongL hlen]
    exact Bool.false_ne_true
  have hnew : List.foldl (fun x1 x2 => x1 ++ x2) #[] (List.replicate (if its.toArray.isEmpty = true then 0 else k.toNat) its.toArray) = (List.replicate k.toNat its).flatten.toArray := by
    have f0 : ∀ m : Nat, List.foldl (fun x1 x2 => x1 ++ x2) #[] (List.replicate m its.toArray) = (List.replicate m its).flatten.toArray := fun m => by
      have := foldl_rep its m []
      rw [List.nil_append] at this
      exact this
    rw [f0]
    cases its with
    | nil => simp
    | cons a r' => rw [if_neg (by simp)]
  refine wpAny_binaryOp_repeat_ref (T := "list") (U := "int") (by decide) ⟨_, e, rfl⟩ (fun s' => typeIs_int s' k t) noFill_list_mul F.fills_int_mul F.slot_int_rmul repeat_list F.slot_int_index.lookup
    (call_meets F.slot_int_rmul (typeIs_int s k t) F.entry_int_rmul (F.args_int_rmul_2 _ _) (int___rmul___int_list k t l its.toArray n)
      ⟨e, rfl, ⟨_, e, rfl⟩, call_meets F.slot_list_mul ⟨_, e, rfl⟩ F.entry_list_mul (F.args_list_mul_2 _ _) (AutoListH.list___mul___list_int_3 l its.toArray n k t hfit hcap hlong) ⟨e, ?_⟩⟩)
  rw [hnew]
  exact ⟨.ref _, _, I.lnew (t' := s.toks) (r.rep k.toNat) (by rw [len_rep, Nat.mul_comm]; exact hz), rfl, q _ I.fresh⟩
theorem Reps.rep {P : PP} {H : Hp} {ds : List PyData} {vs : List V} (h : Reps P H ds vs) : ∀ k : Nat, Reps P H (List.replicate k ds).flatten (List.replicate k vs).flatten
  | 0 => rfl
  | k + 1 => by
    rw [List.replicate_succ, List.replicate_succ, List.flatten_cons, List.flatten_cons]
    exact h.append (Reps.rep h k)
def rMulD : R2 := fun x y H Q => rI CMulD (fun i j => .int (i * j)) x y H Q ∨ rRepR x y H Q
theorem od_mul : OpD rMulD dMul true := by
  intro H₀ Hs H l m x y d v u Q s0 s1 e rx ry q
  unfold dMul at e
  split at e
  · rename_i i j
    split at e
    · rename_i hc
      cases (show v = .int i from rx); cases (show u = .int j from ry); cases e
      exact .inl ⟨i, j, rfl, rfl, hc, q _ H (Same.refl H) rfl⟩
    · cases e
  · rename_i xs k
    split at e
    · rename_i hz
      simp only [Bool.and_eq_true, decide_eq_true_eq] at hz
      obtain ⟨⟨f1, hz⟩, hk⟩ := hz
      cases e
      obtain ⟨pa, vs, rfl, ha, ra⟩ := rx
      cases (show u = .int k from ry)
      have l1 := ra.length
      have hb : big < 2 ^ 63 := by decide
      refine .inr ⟨pa, k, vs, rfl, rfl, ha.rd, by omega, by omega, by rw [l1]; exact le_big hz, fun p hp => ?_⟩
      exact q _ _ (same_new hp _) ⟨p, _, rfl, .inl ⟨⟨rfl, s1.free hp⟩, upd_same⟩, ((ra.nl f1).rep _).same (same_new hp _)⟩
    · cases e
  · cases e
theorem x_mul (ha : PE X a (tF XO fa)) (hb : PE X b (tF XO fb)) : PE X (.BinOp a .Mult b pos) (tF XO (eMul fa fb)) := x_op (op_mulI.or op_repR) od_mul ha hb
theorem op_divI : OpR X (binaryOp .FloorDiv) (rI (fun _ j => 0 < j ∧ j.natAbs < lim) fun i j => .int (i / j)) := opI fun i j _ _ _ _ _ hc q => by
  have h0 : j ≠ 0 := by omega
  refine floordiv_int h0 ?_ (.inl (PyProof.noPylong_of_log2 ?_))
  · rw [Int.fdiv_eq_ediv_of_nonneg _ (by omega)]
    exact q
  · have h1 : j.natAbs ≠ 0 := by omega
    have h2 : j.natAbs.log2 < 256 := (Nat.log2_lt h1).mpr hc.2
    omega
theorem x_div (ha : PE X a (tF XO fa)) (hb : PE X b (tF XO fb)) : PE X (.BinOp a .FloorDiv b pos) (tF XO (eDiv fa fb)) :=
  x_op op_divI (od_int fun x y d e => by
    unfold dDiv at e
    split at e
    · split at e
      · rename_i hc; cases e; exact ⟨_, _, rfl, rfl, hc, rfl⟩
      · cases e
    · cases e) ha hb
theorem x_mod (ha : PE X a (tF XO fa)) (hb : PE X b (tF XO fb)) : PE X (.BinOp a .Mod b pos) (tF XO (eMod fa fb)) :=
  x_op op_mod (od_int fun x y d e => by
    unfold dMod at e
    split at e
    · split at e
      · rename_i hc; cases e; exact ⟨_, _, rfl, rfl, hc, rfl⟩
      · cases e
    · cases e) ha hb
theorem x_pow (ha : PE X a (tF XO fa)) (hb : PE X b (tF XO fb)) : PE X (.BinOp a .Pow b pos) (tF XO (ePow fa fb)) :=
  x_op op_pow (od_int fun x y d e => by
    unfold dPow at e
    split at e
    · split at e
      · rename_i hc; cases e; exact ⟨_, _, rfl, rfl, ⟨hc.1, by omega, hc.2.2⟩, rfl⟩
      · cases e
    · cases e) ha hb
/-! ### one-place operations -/
def OpD1 (r : V → Hp → VK → Prop) (op : PyData → Option PyData) (fr : Bool) : Prop :=
  ∀ (H₀ Hs H : Hp) (l : Nat) (x d : PyData) (v : V) (Q : VK), Same H₀ Hs → Same Hs H → op x = some d → Rep (PL H₀ Hs l) H x v →
    (∀ z H', Same H H' → Rep (PL H₀ Hs (if fr then 2 else l)) H' d z → Q z H') → r v H Q
theorem e1_read {r : V → Hp → VK → Prop} {op : PyData → Option PyData} {fr : Bool} (ho : OpD1 r op fr) {σ : L2.St} {H : Hp} {Q : VK} (h : tF XO (e1 op fr fa) σ H Q) : tF XO fa σ H fun x H1 => r x H1 Q := by
  obtain ⟨H₀, Hs, ρ, rr, g, e, kk⟩ := h
  refine tF_bind g e kk fun l x v H1 s1 g1 r1 e1 k1 => ?_
  cases hd : op x with
  | none => rw [hd] at e1; cases e1
  | some d =>
    rw [hd] at e1
    exact ho H₀ Hs H1 l x d v Q g1.s0 g1.s1 hd r1 fun z H' s rp => k1.give e1 s rp
theorem x_neg (ha : PE X a (tF XO fa)) : PE X (.UnaryOp .USub a pos) (tF XO (eNeg fa)) :=
  PE.imp (pe_un un_neg ha) fun _ _ _ h => e1_read (op := dNeg) (fun H₀ Hs H l x d v Q s0 s1 e rx q => by
    unfold dNeg at e
    split at e
    · rename_i i
      cases (show v = .int i from rx); cases e
      exact ⟨i, rfl, q _ H (Same.refl H) rfl⟩
    · cases e) h
end
end KT
set_option Elab.async false
set_option linter.all false
set_option maxRecDepth 100000
namespace KT
open PySem PySem.Spec PyProof.Rows L2

/-- what a body's context is asked for -/
structure BC (X : Cx) : Prop where
  hu : X.A.units + 64 < cLine
  mlen : X.mg "len" = none
  mint : X.mg "int" = none
  mbool : X.mg "bool" = none
  mstr : X.mg "str" = none
  mtuple : X.mg "tuple" = none
  mlist : X.mg "list" = none
  misi : X.mg "isinstance" = none
  mrange : X.mg "range" = none
  menum : X.mg "enumerate" = none
  mzip : X.mg "zip" = none
  mrev : X.mg "reversed" = none

section
variable {X : Cx} {XO : XOT} {a b c : Expr} {fa fb fc : FE} {pos : Pos}

/-! ### == and != of data -/
def rEqD (neg : Bool) : R2 := fun x y H Q => ∃ (P1 P2 : PP) (d1 d2 : PyData), Rep P1 H d1 x ∧ Rep P2 H d2 y ∧ d1.canLay0 = true ∧ d2.canLay0 = true ∧ min d1.depth d2.depth ≤ 60 ∧ Q (.bl (if neg then !PyData.eqv d1 d2 else PyData.eqv d1 d2)) H
theorem op_eqD (hu : X.A.units + 64 < cLine) : OpR X (compareOp .Eq) (rEqD false) := by
  intro pins s σ H x y v u Q I rx ry h
  obtain ⟨P1, P2, d1, d2, r1, r2, c1, c2, hd, q⟩ := h
  obtain ⟨as, ra⟩ := reads_of I d1 x v c1 r1 rx
  obtain ⟨bs, rb⟩ := reads_of I d2 y u c2 r2 ry
  exact SeqAt.compareEq_reads ra rb c1 c2 (by omega) ⟨.bl _, H, I, rfl, q⟩
theorem op_neD (hu : X.A.units + 64 < cLine) : OpR X (compareOp .NotEq) (rEqD true) := by
  intro pins s σ H x y v u Q I rx ry h
  obtain ⟨P1, P2, d1, d2, r1, r2, c1, c2, hd, q⟩ := h
  obtain ⟨as, ra⟩ := reads_of I d1 x v c1 r1 rx
  obtain ⟨bs, rb⟩ := reads_of I d2 y u c2 r2 ry
  exact SeqAt.compareNe_reads ra rb c1 c2 (by omega) ⟨.bl _, H, I, rfl, q⟩
theorem dEqB_cases {x y : PyData} {b : Bool} (h : dEqB x y = some b) : (∃ i j, x = .int i ∧ y = .int j ∧ b = (i == j)) ∨ (∃ i j, x = .str i ∧ y = .str j ∧ b = (i == j)) ∨ (∃ i j, x = .bool i ∧ y = .bool j ∧ b = (i == j)) ∨ (eqOk x y = true ∧ b = PyData.eqv x y) := by
  unfold dEqB at h
  split at h
  · cases h; exact .inl ⟨_, _, rfl, rfl, rfl⟩
  · cases h; exact .inr (.inl ⟨_, _, rfl, rfl, rfl⟩)
  · cases h; exact .inr (.inr (.inl ⟨_, _, rfl, rfl, rfl⟩))
  · split at h
    · rename_i hk; cases h; exact .inr (.inr (.inr ⟨hk, rfl⟩))
    · cases h
theorem eqOk_iff {x y : PyData} (h : eqOk x y = true) : x.canLay0 = true ∧ y.canLay0 = true ∧ min x.depth y.depth ≤ 60 := by
  simp only [eqOk, Bool.and_eq_true, decide_eq_true_eq] at h
  exact ⟨h.1.1, h.1.2, h.2⟩
theorem od_eq : OpD (fun x y H Q => rEq x y H Q ∨ rEqD false x y H Q) dEq true := by
  intro H₀ Hs H l m x y d v u Q s0 s1 e rx ry q
  unfold dEq at e
  cases hb : dEqB x y with
  | none => rw [hb] at e; cases e
  | some k =>
    rw [hb] at e
    cases e
    rcases dEqB_cases hb with ⟨i, j, rfl, rfl, rfl⟩ | ⟨i, j, rfl, rfl, rfl⟩ | ⟨i, j, rfl, rfl, rfl⟩ | ⟨hk, rfl⟩
    · cases (show v = .int i from rx); cases (show u = .int j from ry)
      exact .inl ⟨rfl, q _ H (Same.refl H) (by rw [dec_int]; rfl)⟩
    · cases (show v = .str i from rx); cases (show u = .str j from ry)
      exact .inl ⟨rfl, q _ H (Same.refl H) (by rw [dec_str]; rfl)⟩
    · cases (show v = .bl i from rx); cases (show u = .bl j from ry)
      exact .inl ⟨rfl, q _ H (Same.refl H) (by rw [dec_bl]; rfl)⟩
    · obtain ⟨c1, c2, hd⟩ := eqOk_iff hk
      exact .inr ⟨_, _, x, y, rx, ry, c1, c2, hd, q _ H (Same.refl H) rfl⟩
theorem od_ne : OpD (fun x y H Q => rNe x y H Q ∨ rEqD true x y H Q) dNe true := by
  intro H₀ Hs H l m x y d v u Q s0 s1 e rx ry q
  unfold dNe at e
  cases hb : dEqB x y with
  | none => rw [hb] at e; cases e
  | some k =>
    rw [hb] at e
    cases e
    rcases dEqB_cases hb with ⟨i, j, rfl, rfl, rfl⟩ | ⟨i, j, rfl, rfl, rfl⟩ | ⟨i, j, rfl, rfl, rfl⟩ | ⟨hk, rfl⟩
    · cases (show v = .int i from rx); cases (show u = .int j from ry)
      exact .inl ⟨rfl, q _ H (Same.refl H) (by rw [dec_int]; rfl)⟩
    · cases (show v = .str i from rx); cases (show u = .str j from ry)
      exact .inl ⟨rfl, q _ H (Same.refl H) (by rw [dec_str]; rfl)⟩
    · cases (show v = .bl i from rx); cases (show u = .bl j from ry)
      exact .inl ⟨rfl, q _ H (Same.refl H) (by rw [dec_bl]; rfl)⟩
    · obtain ⟨c1, c2, hd⟩ := eqOk_iff hk
      exact .inr ⟨_, _, x, y, rx, ry, c1, c2, hd, q _ H (Same.refl H) rfl⟩
/-! ### in, not in -/
def rInD (neg : Bool) : R2 := fun x y H Q => ∃ (P1 P2 : PP) (d1 : PyData) (ds : List PyData), Rep P1 H d1 x ∧ (Rep P2 H (.list ds) y ∨ Rep P2 H (.tuple ds) y) ∧ d1.canLay0 = true ∧ PyData.canLayAll0 ds = true ∧ min (PyData.depthAll ds) d1.depth ≤ 60 ∧
  Q (.bl (if neg then !(ds.any fun y => PyData.eqv y d1) else ds.any fun y => PyData.eqv y d1)) H
theorem op_inD (hu : X.A.units + 64 < cLine) : OpR X (compareOp .In) (rInD false) := by
  intro pins s σ H x y v u Q I rx ry h
  obtain ⟨P1, P2, d1, ds, r1, r2, c1, c2, hd, q⟩ := h
  obtain ⟨as, ra⟩ := reads_of I d1 x v c1 r1 rx
  rcases r2 with r2 | r2
  · obtain ⟨bs, rb⟩ := reads_of I _ y u (by simpa [PyData.canLay0] using c2) r2 ry
    exact SeqAt.in_list_reads rb ra c2 c1 (by omega) ⟨.bl _, H, I, rfl, q⟩
  · obtain ⟨bs, rb⟩ := reads_of I _ y u (by simpa [PyData.canLay0] using c2) r2 ry
    exact SeqAt.in_tuple_reads rb ra c2 c1 (by omega) ⟨.bl _, H, I, rfl, q⟩
theorem op_notInD (hu : X.A.units + 64 < cLine) : OpR X (compareOp .NotIn) (rInD true) := by
  intro pins s σ H x y v u Q I rx ry h
  obtain ⟨P1, P2, d1, ds, r1, r2, c1, c2, hd, q⟩ := h
  obtain ⟨as, ra⟩ := reads_of I d1 x v c1 r1 rx
  rcases r2 with r2 | r2
  · obtain ⟨bs, rb⟩ := reads_of I _ y u (by simpa [PyData.canLay0] using c2) r2 ry
    exact SeqAt.notIn_list_reads rb ra c2 c1 (by omega) ⟨.bl _, H, I, rfl, q⟩
  · obtain ⟨bs, rb⟩ := reads_of I _ y u (by simpa [PyData.canLay0] using c2) r2 ry
    exact SeqAt.notIn_tuple_reads rb ra c2 c1 (by omega) ⟨.bl _, H, I, rfl, q⟩
theorem inOk_iff {x : PyData} {ys : List PyData} (h : inOk x ys = true) : x.canLay0 = true ∧ PyData.canLayAll0 ys = true ∧ min (PyData.depthAll ys) x.depth ≤ 60 := by
  simp only [inOk, Bool.and_eq_true, decide_eq_true_eq] at h
  exact ⟨h.1.1, h.1.2, h.2⟩
theorem od_in : OpD (rInD false) dIn true := by
  intro H₀ Hs H l m x y d v u Q s0 s1 e rx ry q
  unfold dIn at e
  cases hb : dInB x y with
  | none => rw [hb] at e; cases e
  | some k =>
    rw [hb] at e
    cases e
    unfold dInB at hb
    split at hb
    · split at hb
      · rename_i hk
        cases hb
        obtain ⟨c1, c2, hd⟩ := inOk_iff hk
        exact ⟨_, _, _, _, rx, .inr ry, c1, c2, hd, q _ H (Same.refl H) rfl⟩
      · cases hb
    · split at hb
      · rename_i hk
        cases hb
        obtain ⟨c1, c2, hd⟩ := inOk_iff hk
        exact ⟨_, _, _, _, rx, .inl ry, c1, c2, hd, q _ H (Same.refl H) rfl⟩
      · cases hb
    · cases hb
theorem od_notIn : OpD (rInD true) dNotIn true := by
  intro H₀ Hs H l m x y d v u Q s0 s1 e rx ry q
  unfold dNotIn at e
  cases hb : dInB x y with
  | none => rw [hb] at e; cases e
  | some k =>
    rw [hb] at e
    cases e
    unfold dInB at hb
    split at hb
    · split at hb
      · rename_i hk
        cases hb
        obtain ⟨c1, c2, hd⟩ := inOk_iff hk
        exact ⟨_, _, _, _, rx, .inr ry, c1, c2, hd, q _ H (Same.refl H) rfl⟩
      · cases hb
    · split at hb
      · rename_i hk
        cases hb
        obtain ⟨c1, c2, hd⟩ := inOk_iff hk
        exact ⟨_, _, _, _, rx, .inl ry, c1, c2, hd, q _ H (Same.refl H) rfl⟩
      · cases hb
    · cases hb
/-! ### < and its like, is None -/
theorem od_bool {g : Int → Int → Bool} {f : PyData → PyData → Option PyData} (hf : ∀ x y d, f x y = some d → ∃ i j, x = .int i ∧ y = .int j ∧ d = .bool (g i j)) : OpD (rI0 fun i j => .bl (g i j)) f true := by
  intro H₀ Hs H l m x y d v u Q s0 s1 e rx ry q
  obtain ⟨i, j, rfl, rfl, rfl⟩ := hf x y d e
  cases (show v = .int i from rx); cases (show u = .int j from ry)
  exact ⟨i, j, rfl, rfl, q _ H (Same.refl H) rfl⟩
theorem od_lt : OpD (rI0 fun i j => .bl (decide (i < j))) dLt true := od_bool fun x y d e => by unfold dLt at e; split at e <;> first | (cases e; exact ⟨_, _, rfl, rfl, rfl⟩) | cases e
theorem rep_none {P : PP} {H : Hp} : ∀ {x : PyData} {v : V}, Rep P H x v → decide (v = .non) = isNone x
  | .none, _, h => by cases (show _ = _ from h); rfl
  | .bool _, _, h => by cases (show _ = _ from h); rfl
  | .int _, _, h => by cases (show _ = _ from h); rfl
  | .str _, _, h => by cases (show _ = _ from h); rfl
  | .tuple _, _, ⟨_, _, e, _⟩ => by subst e; rfl
  | .list _, _, ⟨_, _, e, _⟩ => by subst e; rfl
  | .dict _, _, ⟨_, _, e⟩ => by subst e; rfl
theorem isNone_eq {y : PyData} (h : isNone y = true) : y = .none := by cases y <;> first | rfl | cases h
theorem od_isN : OpD (fun x y H Q => y = .non ∧ Q (.bl (decide (x = .non))) H) dIsN true := by
  intro H₀ Hs H l m x y d v u Q s0 s1 e rx ry q
  unfold dIsN at e
  split at e
  · rename_i hn
    cases isNone_eq hn
    cases e
    exact ⟨ry, q _ H (Same.refl H) (by rw [rep_none rx]; rfl)⟩
  · cases e
theorem t_cmp {op : CmpOp} {r : R2} {f : PyData → PyData → Option PyData} {fr : Bool} (ho : OpR X (compareOp op) r) (hd : OpD r f fr) (ha : PE X a (tF XO fa)) (hb : PE X b (tF XO fb)) (hm : behindInMarks op b = false) : PT X (.Compare a [op] [b] pos) (tTest (tF XO (e2 f fr fa fb))) :=
  PT.imp (pt_cmpR ho ha hb hm) fun _ _ _ h => e2_read hd h
theorem x_Eq (C : BC X) (ha : PE X a (tF XO fa)) (hb : PE X b (tF XO fb)) : PE X (.Compare a [.Eq] [b] pos) (tF XO (eEq fa fb)) := x_cmp (op_eq.or (op_eqD C.hu)) od_eq ha hb (nomark _)
theorem u_Eq (C : BC X) (ha : PE X a (tF XO fa)) (hb : PE X b (tF XO fb)) : PT X (.Compare a [.Eq] [b] pos) (tTest (tF XO (eEq fa fb))) := t_cmp (op_eq.or (op_eqD C.hu)) od_eq ha hb (nomark _)
theorem u_Ne (C : BC X) (ha : PE X a (tF XO fa)) (hb : PE X b (tF XO fb)) : PT X (.Compare a [.NotEq] [b] pos) (tTest (tF XO (eNe fa fb))) := t_cmp (op_ne.or (op_neD C.hu)) od_ne ha hb (nomark _)
theorem u_In (C : BC X) (ha : PE X a (tF XO fa)) (hb : PE X b (tF XO fb)) (hm : behindInMarks .In b = false := by rfl) : PT X (.Compare a [.In] [b] pos) (tTest (tF XO (eIn fa fb))) := t_cmp (op_inD C.hu) od_in ha hb hm
theorem u_NotIn (C : BC X) (ha : PE X a (tF XO fa)) (hb : PE X b (tF XO fb)) (hm : behindInMarks .NotIn b = false := by rfl) : PT X (.Compare a [.NotIn] [b] pos) (tTest (tF XO (eNotIn fa fb))) := t_cmp (op_notInD C.hu) od_notIn ha hb hm
theorem u_Lt (C : BC X) (ha : PE X a (tF XO fa)) (hb : PE X b (tF XO fb)) : PT X (.Compare a [.Lt] [b] pos) (tTest (tF XO (eLt fa fb))) := t_cmp op_lt od_lt ha hb (nomark _)
theorem u_IsN (C : BC X) (ha : PE X a (tF XO fa)) (hb : PE X b (tF XO fb)) : PT X (.Compare a [.Is] [b] pos) (tTest (tF XO (eIsN fa fb))) := t_cmp op_isN od_isN ha hb (nomark _)
/-! ### a chain of two -/
/-- an operation, with its reading on data -/
structure CmpD (X : Cx) (op : CmpOp) (f : PyData → PyData → Option PyData) : Prop where
  ex : ∃ r, OpR X (compareOp op) r ∧ OpD r f true
theorem x_one {op : BoolOp} (ha : PE X a (tF XO fa)) : PE X (.BoolOp op [a] pos) (tF XO fa) := pe_one ha
theorem x_and {rest : List Expr} (ha : PE X a (tF XO fa)) (hb : PE X (.BoolOp .And (b :: rest) pos) (tF XO fb)) : PE X (.BoolOp .And (a :: b :: rest) pos) (tF XO (eAnd fa fb)) :=
  PE.imp (pe_and ha hb) fun σ H Q ⟨H₀, Hs, ρ, r, g, e, kk⟩ => tF_bind g e kk fun l x v H1 s1 g1 r1 e1 k1 => by
    split at e1
    · exact ⟨true, r1, L2.iteT (⟨H₀, Hs, ρ, r, g1, e1, k1⟩)⟩
    · exact ⟨false, r1, L2.iteF (k1.give e1 (Same.refl _) rfl)⟩
    · cases e1
theorem x_not (ha : PE X a (tF XO fa)) : PE X (.UnaryOp .Not a pos) (tF XO (eNot fa)) :=
  PE.imp (pe_not ha) fun σ H Q ⟨H₀, Hs, ρ, r, g, e, kk⟩ => tF_bind g e kk fun l x v H1 s1 g1 r1 e1 k1 => by
    split at e1
    · exact ⟨_, r1, k1.give e1 (Same.refl _) rfl⟩
    · cases e1
theorem x_ifx {cc : Expr} (hc : PT X cc (tTest (tF XO fc))) (ha : PE X a (tF XO fa)) (hb : PE X b (tF XO fb)) : PE X (.IfExp cc a b pos) (tF XO (eIf fc fa fb)) :=
  PE.imp (pe_ifExp hc ha hb) fun σ H Q ⟨H₀, Hs, ρ, r, g, e, kk⟩ => tF_bind g e kk fun l x v H1 s1 g1 r1 e1 k1 => by
    split at e1
    · exact ⟨true, r1, L2.iteT (⟨H₀, Hs, ρ, r, g1, e1, k1⟩)⟩
    · exact ⟨false, r1, L2.iteF (⟨H₀, Hs, ρ, r, g1, e1, k1⟩)⟩
    · cases e1
/-! ### tests -/
theorem u_val (ha : PE X a (tF XO fa)) (he : ∀ whole, isTrue a X.env whole = (do let v ← whole; standAt a.pos; holding [v] (truthy v)) := by intro _; rfl) : PT X a (tTest (tF XO fa)) := pt_val ha he
theorem u_not (ha : PT X a (tTest (tF XO fa))) : PT X (.UnaryOp .Not a pos) (tTest (tF XO (eNot fa))) :=
  PT.imp (pt_not ha) fun σ H Q ⟨H₀, Hs, ρ, r, g, e, kk⟩ => tF_bind g e kk fun l x v H1 s1 g1 r1 e1 k1 => by
    split at e1
    · obtain ⟨z, hz, q⟩ := k1.give e1 (Same.refl _) (v := .bl _) rfl
      cases hz
      exact ⟨_, r1, q⟩
    · cases e1
theorem u_oneAnd (ha : PT X a (tTest (tF XO fa))) : PW X (.BoolOp .And [a] pos) (tTest (tF XO fa)) := pw_and1 ha
theorem u_oneOr (ha : PT X a (tTest (tF XO fa))) : PW X (.BoolOp .Or [a] pos) (tTest (tF XO fa)) := pw_or1 ha
theorem PW.imp {e : Expr} {t t' : TT} (h : PW X e t) (f : ∀ σ H Q, t' σ H Q → t σ H Q) : PW X e t' := fun whole pins s σ H Q I q => h whole pins s σ H Q I (f σ H Q q)
theorem u_and {rest : List Expr} (ha : PT X a (tTest (tF XO fa))) (hb : PW X (.BoolOp .And (b :: rest) pos) (tTest (tF XO fb))) : PW X (.BoolOp .And (a :: b :: rest) pos) (tTest (tF XO (eAnd fa fb))) :=
  PW.imp (pw_and ha hb) fun σ H Q ⟨H₀, Hs, ρ, r, g, e, kk⟩ => tF_bind g e kk fun l x v H1 s1 g1 r1 e1 k1 => by
    split at e1
    · exact ⟨true, r1, L2.iteT (⟨H₀, Hs, ρ, r, g1, e1, k1⟩)⟩
    · obtain ⟨z, hz, q⟩ := k1.give e1 (Same.refl _) (v := .bl _) rfl
      cases hz
      exact ⟨false, r1, L2.iteF (q)⟩
    · cases e1
theorem u_or {rest : List Expr} (ha : PT X a (tTest (tF XO fa))) (hb : PW X (.BoolOp .Or (b :: rest) pos) (tTest (tF XO fb))) : PW X (.BoolOp .Or (a :: b :: rest) pos) (tTest (tF XO (eOr fa fb))) :=
  PW.imp (pw_or ha hb) fun σ H Q ⟨H₀, Hs, ρ, r, g, e, kk⟩ => tF_bind g e kk fun l x v H1 s1 g1 r1 e1 k1 => by
    split at e1
    · obtain ⟨z, hz, q⟩ := k1.give e1 (Same.refl _) (v := .bl _) rfl
      cases hz
      exact ⟨true, r1, L2.iteT (q)⟩
    · exact ⟨false, r1, L2.iteF (⟨H₀, Hs, ρ, r, g1, e1, k1⟩)⟩
    · cases e1
end
end KT
set_option Elab.async false
set_option linter.all false
set_option maxRecDepth 100000
namespace KT
open PySem PySem.Spec PyProof.Rows L2

/-- an argument without a star -/
def notStar : Expr → Bool
  | .Starred _ _ => false
  | _ => true
theorem star_cons {e : Expr} {es : List Expr} {env : Env} (h : notStar e = true) : starEach (e :: es) env = (false, eval e env) :: starEach es env := by
  cases e <;> first | cases h; done | (rw [starEach]; intro _ _ z; cases z)
theorem star_any {pos : Pos} {env : Env} : ∀ {es : List Expr}, es.all notStar = true → (backTo pos (starEach es env)).any (·.1) = false
  | [], _ => by simp [starEach, backTo]
  | e :: es, h => by
    rw [List.all_cons, Bool.and_eq_true] at h
    rw [star_cons h.1]
    show (false || (backTo pos (starEach es env)).any (·.1)) = false
    rw [star_any h.2]
    rfl
section
variable {X : Cx} {XO : XOT} {a b c e : Expr} {es : List Expr} {fa fb fc f : FE} {fs : List FE} {pos : Pos}

/-! ### rows of arguments -/
def KI (XO : XOT) (H₀ Hs : Hp) (σ : L2.St) (H : Hp) (Q : List V → Hp → Prop) (r : RI) : Prop :=
  (∀ l ds vs H', r = .ok l ds → Same H H' → Reps (PL H₀ Hs l) H' ds vs → Q vs H') ∧ ∀ c H', r = .exc c → Same H H' → XO.f c σ H'
theorem KI.same {H₀ Hs : Hp} {σ : L2.St} {H H' : Hp} {Q : List V → Hp → Prop} {r : RI} (k : KI XO H₀ Hs σ H Q r) (s : Same H H') : KI XO H₀ Hs σ H' Q r :=
  ⟨fun l d v H2 e t => k.1 l d v H2 e (s.trans t), fun c H2 e t => k.2 c H2 e (s.trans t)⟩
def tAs (XO : XOT) (fs : List FE) : TA := fun σ H Q => ∃ H₀ Hs ρ r, G XO.cv H₀ Hs ρ σ H ∧ eArgs fs ρ = some r ∧ KI XO H₀ Hs σ H Q r
theorem PA.imp {t t' : TA} (h : PA X es t) (g : ∀ σ H Q, t' σ H Q → t σ H Q) : PA X es t' := fun pos pins s σ H Q I q => h pos pins s σ H Q I (g σ H Q q)
theorem a_nil : PA X [] (tAs XO []) := PA.imp pa_nil fun σ H Q ⟨H₀, Hs, ρ, r, g, e, k⟩ => by
  cases e
  exact k.1 2 [] [] H rfl (Same.refl H) rfl
theorem Rep.low {H₀ Hs H : Hp} (s : Same H₀ Hs) {l m : Nat} (h : l ≤ m) {d : PyData} {v : V} (r : Rep (PL H₀ Hs m) H d v) : Rep (PL H₀ Hs l) H d v := r.imp fun _ _ p => PL.le s h p
theorem Reps.low {H₀ Hs H : Hp} (s : Same H₀ Hs) {l m : Nat} (h : l ≤ m) {d : List PyData} {v : List V} (r : Reps (PL H₀ Hs m) H d v) : Reps (PL H₀ Hs l) H d v := r.imp fun _ _ p => PL.le s h p
theorem a_cons (ha : PE X e (tF XO f)) (hr : PA X es (tAs XO fs)) (hs : starEach (e :: es) X.env = (false, eval e X.env) :: starEach es X.env := by exact star_cons rfl) : PA X (e :: es) (tAs XO (f :: fs)) :=
  PA.imp (pa_cons ha hr hs) fun σ H Q ⟨H₀, Hs, ρ, r, g, e, k⟩ => by
    unfold eArgs at e
    cases hf : f ρ with
    | none => rw [hf] at e; cases e
    | some x =>
      rw [hf] at e
      cases x with
      | exc c =>
        cases e
        exact ⟨H₀, Hs, ρ, .exc c, g, hf, ⟨fun l d v H' e => (nomatch e), fun c' H' e' s => k.2 c' H' (by cases e'; rfl) s⟩⟩
      | ok l d =>
        refine ⟨H₀, Hs, ρ, .ok l d, g, hf, ⟨fun l' d' v H1 e' s1 r1 => ?_, fun c H' e => (nomatch e)⟩⟩
        cases e'
        dsimp only at e
        cases ht : eArgs fs ρ with
        | none => rw [ht] at e; cases e
        | some y =>
          rw [ht] at e
          cases y with
          | exc c =>
            cases e
            exact ⟨H₀, Hs, ρ, .exc c, g.same s1, ht, ⟨fun l d v H' e => (nomatch e), fun c' H' e' s => k.2 c' H' (by cases e'; rfl) (s1.trans s)⟩⟩
          | ok m ds =>
            cases e
            refine ⟨H₀, Hs, ρ, .ok m ds, g.same s1, ht, ⟨fun m' ds' vs H2 e' s2 r2 => ?_, fun c H' e => (nomatch e)⟩⟩
            cases e'
            exact k.1 _ _ (v :: vs) H2 rfl (s1.trans s2) ⟨v, vs, rfl, (r1.same s2).low g.s0 (Nat.min_le_left _ _), r2.low g.s0 (Nat.min_le_right _ _)⟩
theorem eArgs_len : ∀ {fs : List FE} {ρ : Rho} {l : Nat} {ds : List PyData}, eArgs fs ρ = some (.ok l ds) → ds.length = fs.length
  | [], _, _, _, e => by cases e; rfl
  | f :: fs, ρ, l, ds, e => by
    unfold eArgs at e
    cases hf : f ρ with
    | none => rw [hf] at e; cases e
    | some x =>
      rw [hf] at e
      cases x with
      | exc c => cases e
      | ok l d =>
        dsimp only at e
        cases ht : eArgs fs ρ with
        | none => rw [ht] at e; cases e
        | some y =>
          rw [ht] at e
          cases y with
          | exc c => cases e
          | ok m ds' => cases e; simp [eArgs_len ht]
theorem tAs_bind {H₀ Hs : Hp} {ρ : Rho} {σ : L2.St} {H : Hp} {Q : VK} {Q' : List V → Hp → Prop} {k : Nat → List PyData → Option RE} {r : RE} (g : G XO.cv H₀ Hs ρ σ H) (e : bindI (eArgs fs ρ) k = some r) (kk : KK XO H₀ Hs σ H Q r)
    (cont : ∀ l ds vs H1, Same H H1 → G XO.cv H₀ Hs ρ σ H1 → Reps (PL H₀ Hs l) H1 ds vs → ds.length = fs.length → k l ds = some r → KK XO H₀ Hs σ H1 Q r → Q' vs H1) : tAs XO fs σ H Q' := by
  cases h : eArgs fs ρ with
  | none => rw [h] at e; cases e
  | some x =>
    rw [h] at e
    cases x with
    | exc c =>
      cases (Option.some.inj e)
      exact ⟨H₀, Hs, ρ, .exc c, g, h, ⟨fun l d v H' e => (nomatch e), fun c' H' e' s => kk.2 c' H' (by cases e'; rfl) s⟩⟩
    | ok l ds =>
      refine ⟨H₀, Hs, ρ, .ok l ds, g, h, ⟨fun l' d' v H' e' s rp => ?_, fun c H' e => (nomatch e)⟩⟩
      cases e'
      exact cont l ds v H' s (g.same s) rp (eArgs_len h) e (kk.same s)
/-! ### displays -/
theorem x_tup {x1} (h : PA X es (tAs XO fs)) (hl : Nat.ble fs.length 1000 = true := by rfl) : PE X (.Tuple es x1 pos) (tF XO (eTup fs)) :=
  PE.imp (pe_tup h) fun σ H Q ⟨H₀, Hs, ρ, r, g, e, kk⟩ => tAs_bind g e kk fun l ds vs H1 s1 g1 r1 hn e1 k1 => by
    have hz : vs.length ≤ sizeLine := by
      rw [r1.length, hn]
      exact Nat.le_trans (Nat.le_of_ble_eq_true hl) (by decide)
    exact ⟨hz, fun p hp => k1.give e1 (same_new hp _) ⟨p, vs, rfl, (.inl upd_same), r1.same (same_new hp _)⟩⟩
theorem x_lst (h : PA X es (tAs XO fs)) (hl : Nat.ble fs.length 1000 = true := by rfl) : PE X (.List es pos) (tF XO (eLst fs)) :=
  PE.imp (pe_lst h) fun σ H Q ⟨H₀, Hs, ρ, r, g, e, kk⟩ => tAs_bind g e kk fun l ds vs H1 s1 g1 r1 hn e1 k1 => by
    have hz : vs.length ≤ sizeLine := by
      rw [r1.length, hn]
      exact Nat.le_trans (Nat.le_of_ble_eq_true hl) (by decide)
    refine ⟨hz, fun p hp => ?_⟩
    split at e1
    · rename_i f1
      exact k1.give e1 (same_new hp _) ⟨p, vs, rfl, .inl ⟨⟨rfl, g1.s1.free hp⟩, upd_same⟩, (r1.nl f1).same (same_new hp _)⟩
    · cases e1
/-! ### a[b], a[b:c] -/
theorem atP_eq {α : Type} (xs : List α) (i : Int) : atP xs i = atI xs i := rfl
theorem Reps.atI {P : PP} {H : Hp} {ds : List PyData} {vs : List V} {i : Int} {d : PyData} (r : Reps P H ds vs) (h : atP ds i = some d) : ∃ v, L2.atI vs i = some v ∧ Rep P H d v := by
  rw [atP_eq] at h
  unfold L2.atI at h ⊢
  rw [r.length]
  cases q : ixN ds.length i with
  | none => rw [q] at h; cases h
  | some j =>
    rw [q] at h
    exact r.get h
theorem od_ix {K : PySem.W.Frag} : OpD (rIx K) dIx false := by
  intro H₀ Hs H l m x y d v u Q s0 s1 e rx ry q
  unfold dIx at e
  split at e
  · rename_i xs i
    obtain ⟨pa, vs, rfl, ha, ra⟩ := rx
    cases (show u = .int i from ry)
    obtain ⟨z, hz, rz⟩ := ra.atI e
    exact .inr (.inl ⟨pa, vs, i, z, rfl, rfl, .inl ha, hz, q z H (Same.refl H) (rz.low s0 (Nat.min_le_left _ _))⟩)
  · rename_i xs i
    obtain ⟨pa, vs, rfl, ha, ra⟩ := rx
    cases (show u = .int i from ry)
    obtain ⟨z, hz, rz⟩ := ra.atI e
    exact .inl ⟨pa, vs, i, z, rfl, rfl, .inl ha.rd, hz, q z H (Same.refl H) (rz.low s0 (Nat.min_le_left _ _))⟩
  · rename_i z i
    split at e
    · rename_i hz
      cases (show v = .str z from rx)
      cases (show u = .int i from ry)
      cases hc : atP z.cps.toList i with
      | none => rw [hc] at e; cases e
      | some c =>
        rw [hc] at e
        cases e
        exact .inr (.inr ⟨z, i, c, rfl, rfl, le_big hz, hc, q _ H (Same.refl H) rfl⟩)
    · cases e
  · cases e
theorem x_at (ha : PE X a (tF XO fa)) (hb : PE X b (tF XO fb)) (hs : PlainIx b := by exact fun _ _ => rfl) : PE X (.Subscript a b pos) (tF XO (eIx fa fb)) := x_ix ix_seq od_ix ha hb hs
/-- the part of a slice -/
def tO (XO : XOT) (f : FO) : TO := fun σ H Q => ∃ H₀ Hs ρ r, G XO.cv H₀ Hs ρ σ H ∧ f ρ = some r ∧ (∀ i H', r = .ok i → Same H H' → Q i H') ∧ ∀ c H', r = .exc c → Same H H' → XO.f c σ H'
theorem PO.imp {o : Option Expr} {t t' : TO} (h : PO X o t) (g : ∀ σ H Q, t' σ H Q → t σ H Q) : PO X o t' := fun pins s σ H Q I q => h pins s σ H Q I (g σ H Q q)
theorem o_none : PO X none (tO XO oNone) := PO.imp po_none fun σ H Q ⟨H₀, Hs, ρ, r, g, e, k, _⟩ => by
  cases e
  exact k none H rfl (Same.refl H)
theorem o_some (h : PE X a (tF XO fa)) : PO X (some a) (tO XO (oSome fa)) := PO.imp (po_some h) fun σ H Q ⟨H₀, Hs, ρ, r, g, e, k, kx⟩ => by
  unfold oSome at e
  split at e
  · rename_i l i hf
    cases e
    refine ⟨H₀, Hs, ρ, _, g, hf, ⟨fun l' d' v H' e' s rp => ?_, fun c H' e => (nomatch e)⟩⟩
    cases e'
    exact ⟨i, rp, k _ H' rfl s⟩
  · rename_i c hf
    cases e
    exact ⟨H₀, Hs, ρ, _, g, hf, ⟨fun l d v H' e => (nomatch e), fun c' H' e' s => kx c' H' (by cases e'; rfl) s⟩⟩
  · cases e
theorem sxP_eq (n d : Nat) (o : Option Int) : sxP n d o = HT.sIx n d o := by
  cases o with
  | none => rfl
  | some v =>
    have h := HT.clip_eq v n d
    show (if v < 0 then (v + n).toNat else min v.toNat n) = HT.sIx n d (some v)
    by_cases hv : v < 0
    · rw [if_pos hv] at h ⊢
      omega
    · rw [if_neg hv] at h ⊢
      omega
theorem cut_rep {P : PP} {H : Hp} {ds : List PyData} {vs : List V} (r : Reps P H ds vs) (lo hi : Option Int) : Reps P H (cutP ds lo hi) (cutV vs lo hi) := by
  unfold cutP cutV
  rw [sxP_eq, sxP_eq, r.length]
  exact (r.drop _).take _
/-- t[lo:hi], the whole of it: t itself -/
theorem getItem_tuple_all {prog : Program} {w : World} {A : Around} {E : Value → Shared → Prop} {s : Shared} {t sl : Addr} {items : Array Value} {vl vu : Value} {lo hi : Option Int} {Q : Value → Shared → Prop} (ht : IsTup s.heap t items) (hs : s.heap.IsSliceOf sl vl vu .none) (pl : IsPart vl lo) (pu : IsPart vu hi)
    (h1 : HT.sIx items.size 0 lo = 0) (h2 : HT.sIx items.size items.size hi = items.size) (h : Q (.ref t) s) : wpAny (model prog w) A (getItem (.ref t) (.ref sl)) Q E s := by
  obtain ⟨os, hos, hcs, hds⟩ := id hs
  have hTs : s.TypeIs (.ref sl) "slice" := ⟨os, hos, hcs⟩
  obtain ⟨ot, hot, hct, nt, hdt⟩ := id ht
  unfold getItem
  try with_reducible refine wpAny_holding ?_
  first | refine wpAny_bind (wpAny_pure ?_) | skip
  refine wpAny_bind (wpAny_sequenceKey ht.typeIs (by decide) ?_)
  refine wpAny_bind (wpAny_callSpecial?_slot (name := Str.ofString "__getitem__") ht.typeIs PyProof.Rows.slot_tuple_getitem
    (wpAny_call_entry PyProof.Rows.slot_tuple_getitem ht.typeIs entry_tuple_getitem ?_ (args_tuple_getitem _ _)))
  show wpAny _ _ (Builtin.Tuple.tupleItemsOf (.ref t) >>= _) _ _ s
  refine wpAny_bind (tupleItemsOf_ ht ?_)
  refine wpAny_bind (wpAny_typeOf hTs ?_)
  rw [if_pos (by decide)]
  refine wpAny_bind (HT.sliceApplied_gen hs pl pu ?_)
  rw [h1, h2]
  show wpAny _ _ (if (((0 : Nat) : Int) == 0 && (1 : Int) == 1 && (items.size - 0) == items.size) = true then (Builtin.Tuple.tupleIsExact (.ref t) >>= _) else _) _ _ s
  rw [if_pos (by simp)]
  refine wpAny_bind ?_
  unfold Builtin.Tuple.tupleIsExact
  refine wpAny_bind (wpAny_typeOf ht.typeIs (wpAny_pure ?_))
  rw [if_pos (by decide)]
  exact wpAny_bind (wpAny_rule (wpAny_pure ⟨_, rfl, wpAny_pure h⟩))
def rSlA (K : PySem.W.Frag) : V → Option Int → Option Int → Hp → VK → Prop := fun x lo hi H Q => ∃ a xs, x = .ref a ∧ SqT K H a xs ∧ HT.sIx xs.length 0 lo = 0 ∧ HT.sIx xs.length xs.length hi = xs.length ∧ Q (.ref a) H
theorem sl_all : SlR X (rSlA X.K) := by
  intro pins s σ H x v vl vu lo hi sl Q I rx hs pl pu h
  obtain ⟨a, xs, rfl, hx, h1, h2, q⟩ := h
  cases rx
  obtain ⟨its, r, ht, hz⟩ := I.tuple hx
  have hlen : its.toArray.size = xs.length := by rw [List.size_toArray]; exact r.length.symm
  exact ⟨"tuple", _, PyProof.Rows.slot_tuple_getitem.lookup, ht.typeIs, getItem_tuple_all ht hs pl pu (by rw [hlen]; exact h1) (by rw [hlen]; exact h2) ⟨.ref a, H, I, rfl, q⟩⟩
theorem x_sl {lo hi : Option Expr} {flo fhi : FO} {p2 : Pos} (ha : PE X a (tF XO fa)) (hl : PO X lo (tO XO flo)) (hh : PO X hi (tO XO fhi)) : PE X (.Subscript a (.Slice lo hi none p2) pos) (tF XO (eSl fa flo fhi)) :=
  PE.imp (pe_slice (sl_all.or (sl_tup.or sl_list)) ha hl hh) fun σ H Q ⟨H₀, Hs, ρ, r, g, e, kk⟩ => tF_bind g e kk fun l x v H1 s1 g1 r1 e1 k1 => by
    split at e1
    · rename_i lo' hlo
      refine ⟨H₀, Hs, ρ, _, g1, hlo, fun i H2 ei s2 => ?_, fun c H' e => (nomatch e)⟩
      cases ei
      split at e1
      · rename_i hi' hhi
        refine ⟨H₀, Hs, ρ, _, g1.same s2, hhi, fun j H3 ej s3 => ?_, fun c H' e => (nomatch e)⟩
        cases ej
        have r3 := r1.same (s2.trans s3)
        have k3 := k1.same (s2.trans s3)
        have g3 := g1.same (s2.trans s3)
        cases hd : dSl lo' hi' x with
        | none => rw [hd] at e1; cases e1
        | some d =>
          rw [hd] at e1
          unfold dSl at hd
          split at hd
          · split at hd
            · rename_i f1
              cases hd
              obtain ⟨pa, vs, rfl, hp, ra⟩ := r3
              by_cases hw : HT.sIx vs.length 0 lo' = 0 ∧ HT.sIx vs.length vs.length hi' = vs.length
              · refine .inl ⟨pa, vs, rfl, .inl hp, hw.1, hw.2, k3.give e1 (Same.refl _) ⟨pa, vs, rfl, hp, ?_⟩⟩
                have hc := cut_rep (ra.nl (P' := PL H₀ Hs 2) f1) lo' hi'
                unfold cutV at hc
                rw [hw.1, hw.2, Nat.sub_zero, List.drop_zero, List.take_length] at hc
                exact hc
              · refine .inr (.inl ⟨pa, vs, rfl, .inl hp, hw, fun p hpn => ?_⟩)
                exact k3.give e1 (same_new hpn _) ⟨p, _, rfl, (.inl upd_same), (cut_rep (ra.nl f1) _ _).same (same_new hpn _)⟩
            · cases hd
          · split at hd
            · rename_i f1
              cases hd
              obtain ⟨pa, vs, rfl, hp, ra⟩ := r3
              refine .inr (.inr ⟨pa, vs, rfl, .inl hp.rd, fun p hpn => ?_⟩)
              exact k3.give e1 (same_new hpn _) ⟨p, _, rfl, .inl ⟨⟨rfl, g3.s1.free hpn⟩, upd_same⟩, (cut_rep (ra.nl f1) _ _).same (same_new hpn _)⟩
            · cases hd
          · cases hd
      · rename_i c hhi
        cases e1
        exact ⟨H₀, Hs, ρ, _, g1.same s2, hhi, fun j H3 ej s3 => (nomatch ej), fun c' H' e' s => k1.2 c' H' (by cases e'; rfl) (s2.trans s)⟩
      · cases e1
    · rename_i c hlo
      cases e1
      exact ⟨H₀, Hs, ρ, _, g1, hlo, fun j H3 ej s3 => (nomatch ej), fun c' H' e' s => k1.2 c' H' (by cases e'; rfl) s⟩
    · cases e1
end
end KT
set_option Elab.async false
set_option linter.all false
set_option maxRecDepth 100000
namespace KT
open PySem PySem.Spec PyProof.Rows L2

/-! ### the state of a body: F, what stays; O, whose own list an address is -/
abbrev Own := Addr → Option Nat
/-- the error classes by number; how many names a body has -/
structure Cfg where
  cv : Nat → Value
  n : Nat
  lend : Addr
/-- what a def may have of its own: a list, a dict of True -/
inductive OwV where
  | l (vs : List V) | k (kvs : List (Key × V)) | n (ks : List PyData)
def OwV.ho : OwV → HO
  | .l vs => .lst vs
  | .k kvs => .dK kvs
  | .n ks => .dN ks
theorem rd_upd {H : Hp} {p a : Addr} {o : HO} {o0 : OwV} {xs : List V} (hp : H p = some o0.ho) (h : Rd H a (.tup xs)) : Rd (upd H p o) a (.tup xs) := by
  have hne : a ≠ p := by
    intro z; subst z
    rcases h with h | ⟨_, h⟩ <;> (rw [hp] at h; cases o0 <;> cases h)
  rcases h with h | ⟨q, h⟩
  · exact .inl (by rw [upd_ne hne]; exact h)
  · exact .inr ⟨q, by rw [upd_ne hne]; exact h⟩
theorem DR.ow {H : Hp} {ks : List PyData} {a : Addr} (h : DR H ks a) : ∃ vs : OwV, H a = some vs.ho := by
  rcases h with ⟨is, e, h⟩ | ⟨n, h⟩
  · exact ⟨.k _, h⟩
  · exact ⟨.n _, h⟩
def SS (cv : Cfg) (H₀ : Hp) (O : Own) (o : Option (Option V)) (i : Nat) (H : Hp) : Slot → Prop
  | .par d => ∃ v, o = some (some v) ∧ Rep (fun _ a => O a = none) H d v
  | .loc d => ∃ v, o = some (some v) ∧ Rep (fun z a => z = false ∧ O a = none ∧ H₀ a = none) H d v
  | .own ds => ∃ p vs, o = some (some (.ref p)) ∧ O p = some i ∧ H p = some (.lst vs) ∧ Reps (fun _ _ => False) H ds vs
  | .own2 ds => ∃ p vs, o = some (some (.ref p)) ∧ O p = some i ∧ H p = some (.lst vs) ∧ Reps (fun z a => z = false ∧ O a = none ∧ H₀ a = none) H ds vs
  | .lent ds => ∃ vs, o = some (some (.ref cv.lend)) ∧ O cv.lend = some i ∧ H cv.lend = some (.lst vs) ∧ Reps (fun _ _ => False) H ds vs
  | .dct ks => ∃ a, o = some (some (.ref a)) ∧ O a = some i ∧ DR H ks a
  | .ex c => ∃ a, o = some (some (.ref a)) ∧ XRep cv.cv H c a
structure SO (cv : Cfg) (H₀ F : Hp) (ρ : Rho) (σ : L2.St) (H : Hp) (O : Own) : Prop where
  fr : ∀ a i, O a = some i → F a = none
  ls : ∀ a i, O a = some i → ∃ vs : OwV, H a = some vs.ho
  sl : ∀ i t, ρ[i]? = some (some t) → SS cv H₀ O σ[i]? i H t
structure SR (cv : Cfg) (H₀ F : Hp) (ρ : Rho) (σ : L2.St) (H : Hp) : Prop where
  s0 : Same H₀ F
  s1 : Same F H
  len : ρ.length = cv.n
  ln : σ.length = cv.n
  ex : ∃ O, SO cv H₀ F ρ σ H O
theorem SS.same {cv : Cfg} {H₀ H H' : Hp} {O : Own} {o : Option (Option V)} {i : Nat} (s : Same H H') : ∀ {t : Slot}, SS cv H₀ O o i H t → SS cv H₀ O o i H' t
  | .par _, ⟨v, e, h⟩ => ⟨v, e, h.same s⟩
  | .loc _, ⟨v, e, h⟩ => ⟨v, e, h.same s⟩
  | .own _, ⟨p, vs, e, q, h, r⟩ => ⟨p, vs, e, q, s _ _ h, r.same s⟩
  | .own2 _, ⟨p, vs, e, q, h, r⟩ => ⟨p, vs, e, q, s _ _ h, r.same s⟩
  | .lent _, ⟨vs, e, q, h, r⟩ => ⟨vs, e, q, s _ _ h, r.same s⟩
  | .dct _, ⟨a, e, q, h⟩ => ⟨a, e, q, h.same s⟩
  | .ex _, ⟨a, e, h⟩ => ⟨a, e, h.same s⟩
theorem SR.same {cv : Cfg} {H₀ F H H' : Hp} {ρ : Rho} {σ : L2.St} (r : SR cv H₀ F ρ σ H) (s : Same H H') : SR cv H₀ F ρ σ H' :=
  ⟨r.s0, r.s1.trans s, r.len, r.ln, let ⟨O, o⟩ := r.ex; ⟨O, o.fr, fun a i e => let ⟨vs, q⟩ := o.ls a i e; ⟨vs, s _ _ q⟩, fun i t e => (o.sl i t e).same s⟩⟩
theorem SR.g {cv : Cfg} {H₀ F H : Hp} {ρ : Rho} {σ : L2.St} (r : SR cv H₀ F ρ σ H) : G cv.cv H₀ H ρ σ H := by
  refine ⟨r.s0.trans r.s1, Same.refl H, fun i t e => ?_⟩
  obtain ⟨O, o⟩ := r.ex
  have h := o.sl i t e
  cases t with
  | par d => obtain ⟨v, e, q⟩ := h; exact ⟨v, e, q.imp fun _ _ _ => trivial⟩
  | loc d => obtain ⟨v, e, q⟩ := h; exact ⟨v, e, q.imp fun _ _ p => ⟨p.1, p.2.2⟩⟩
  | own ds =>
    obtain ⟨p, vs, e, q, h, rs⟩ := h
    exact ⟨.ref p, e, p, vs, rfl, .inl ⟨⟨rfl, r.s0.free (o.fr p i q)⟩, h⟩, rs.imp fun _ _ z => z.elim⟩
  | own2 ds =>
    obtain ⟨p, vs, e, q, h, rs⟩ := h
    exact ⟨.ref p, e, p, vs, rfl, .inl ⟨⟨rfl, r.s0.free (o.fr p i q)⟩, h⟩, rs.imp fun _ _ z => ⟨z.1, z.2.2⟩⟩
  | lent ds =>
    obtain ⟨vs, e, q, h, rs⟩ := h
    exact ⟨.ref cv.lend, e, _, vs, rfl, .inl ⟨⟨rfl, r.s0.free (o.fr _ i q)⟩, h⟩, rs.imp fun _ _ z => z.elim⟩
  | dct ks => obtain ⟨a, e, q, h⟩ := h; exact ⟨a, e, h⟩
  | ex c => exact h
/-- what is wanted behind a statement -/
def KS (cv : Cfg) (XO : XOF) (H₀ F : Hp) (D : Ends) (r : RS) : Prop :=
  match r with
  | .next ρ' => ∀ σ' H', SR cv H₀ F ρ' σ' H' → D.nx σ' H'
  | .ret d => ∀ v H', Same F H' → Rep (fun z a => z = false ∧ H₀ a = none) H' d v → D.rt v H'
  | .exc c ρ' => ∀ σ' H', SR cv H₀ F ρ' σ' H' → XO c σ' H'
  | .brk ρ' => ∀ σ' H', SR cv H₀ F ρ' σ' H' → D.bk σ' H'
  | .cont ρ' => ∀ σ' H', SR cv H₀ F ρ' σ' H' → D.ct σ' H'
def tS (cv : Cfg) (XO : XOF) (f : FS) : TS := fun D σ H => ∃ H₀ F ρ r, SR cv H₀ F ρ σ H ∧ f ρ = some r ∧ KS cv XO H₀ F D r
section
variable {X : Cx} {XO : XOF} {cv : Cfg} {e : Expr} {f fa fb : FE} {st : Stmt} {rest sa sb : List Stmt} {a b : FS} {pos : Pos}
theorem PSs.imp {sts : List Stmt} {t t' : TS} (h : PSs X sts t) (g : ∀ D σ H, t' D σ H → t D σ H) : PSs X sts t' := fun pins s σ H D I q => h pins s σ H D I (g D σ H q)
/-- an expression at a statement's start -/
theorem tS_bind {H₀ F : Hp} {ρ : Rho} {σ : L2.St} {H : Hp} {D : Ends} {Q : VK} {k : Nat → PyData → Option RS} {r : RS} (g : SR cv H₀ F ρ σ H) (e : bindS (f ρ) ρ k = some r) (kk : KS cv XO H₀ F D r)
    (cont : ∀ l d v H1, Same H H1 → Rep (PL H₀ H l) H1 d v → k l d = some r → Q v H1) : tF ⟨cv.cv, XO⟩ f σ H Q := by
  cases h : f ρ with
  | none => rw [h] at e; cases e
  | some x =>
    rw [h] at e
    cases x with
    | exc c =>
      cases (Option.some.inj e)
      refine ⟨H₀, H, ρ, .exc c, g.g, h, ⟨fun l d v H' e => (nomatch e), fun c' H' e' s => ?_⟩⟩
      cases e'
      exact kk σ H' (g.same s)
    | ok l d =>
      refine ⟨H₀, H, ρ, .ok l d, g.g, h, ⟨fun l' d' v H' e' s rp => ?_, fun c H' e => (nomatch e)⟩⟩
      cases e'
      exact cont l d v H' s rp e
/-! ### blocks -/
theorem b_nil : PSs X [] (tS cv XO sNext) := PSs.imp pss_nil fun D σ H ⟨H₀, F, ρ, r, g, e, k⟩ => by
  cases e
  exact k σ H g
theorem b_one (h : PS X st (tS cv XO a)) : PSs X [st] (tS cv XO a) := pss_one h
theorem b_cons (h : PS X st (tS cv XO a)) (t : PSs X rest (tS cv XO b)) : PSs X (st :: rest) (tS cv XO (sSeq a b)) := PSs.imp (pss_cons h t) fun D σ H ⟨H₀, F, ρ, r, g, e, k⟩ => by
  unfold sSeq at e
  cases ha : a ρ with
  | none => rw [ha] at e; cases e
  | some x =>
    rw [ha] at e
    cases x with
    | next ρ' => exact ⟨H₀, F, ρ, .next ρ', g, ha, fun σ' H' g' => ⟨H₀, F, ρ', r, g', e, k⟩⟩
    | ret d => cases e; exact ⟨H₀, F, ρ, .ret d, g, ha, k⟩
    | exc c ρ' => cases e; exact ⟨H₀, F, ρ, .exc c ρ', g, ha, k⟩
    | brk ρ' => cases e; exact ⟨H₀, F, ρ, .brk ρ', g, ha, k⟩
    | cont ρ' => cases e; exact ⟨H₀, F, ρ, .cont ρ', g, ha, k⟩
theorem s_ret (h : PE X e (tF ⟨cv.cv, XO⟩ f)) : PS X (.Return (some e) pos) (tS cv XO (sRet f)) :=
  PS.imp (ps_ret h) fun D σ H ⟨H₀, F, ρ, r, g, e, k⟩ => tS_bind g e k fun l d v H1 s1 r1 e1 => by
    split at e1
    · rename_i hc
      cases e1
      refine k v H1 (g.s1.trans s1) ?_
      by_cases hl : lf d = true
      · exact r1.nl hl
      · have h1 : 1 ≤ l := by
          rw [Bool.or_eq_true] at hc
          exact of_decide_eq_true (hc.resolve_left hl)
        exact r1.imp fun z a p => PL.le (g.s0.trans g.s1) h1 p
    · cases e1
theorem s_if {c : Expr} {fc : FE} (hc : PT X c (tTest (tF ⟨cv.cv, XO⟩ fc))) (ha : PSs X sa (tS cv XO a)) (hb : PSs X sb (tS cv XO b)) : PS X (.If c sa sb pos) (tS cv XO (sIf fc a b)) :=
  PS.imp (ps_if hc ha hb) fun D σ H ⟨H₀, F, ρ, r, g, e, k⟩ => tS_bind g e k fun l d v H1 s1 r1 e1 => by
    split at e1
    · exact ⟨true, r1, L2.iteT (⟨H₀, F, ρ, r, g.same s1, e1, k⟩)⟩
    · exact ⟨false, r1, L2.iteF (⟨H₀, F, ρ, r, g.same s1, e1, k⟩)⟩
    · cases e1
/-! ### x = e -/
theorem hp_ne {H : Hp} {a : Addr} {o : HO} (e : H a = some o) : H a ≠ none := by rw [e]; simp
theorem set_get {α : Type} (xs : List α) (i j : Nat) (v : α) (hi : i < xs.length) : (xs.set i v)[j]? = if i = j then some v else xs[j]? := by
  by_cases h : i = j
  · subst h; simp [hi]
  · simp [h]
/-- a slot is set: what it holds is fresh, or without lists -/
theorem SR.set {H₀ F H H1 : Hp} {ρ : Rho} {σ : L2.St} {i l : Nat} {d : PyData} {v : V} {t : Slot} (g : SR cv H₀ F ρ σ H) (hi' : Nat.blt i cv.n = true) (s1 : Same H H1) (r1 : Rep (PL H₀ H l) H1 d v) (ha : asg l d = some t) :
    SR cv H₀ F (ρ.set i (some t)) (σ.set i (some v)) H1 := by
  obtain ⟨O, o⟩ := g.ex
  have o1 : SO cv H₀ F ρ σ H1 O := ⟨o.fr, fun a i e => let ⟨vs, q⟩ := o.ls a i e; ⟨vs, s1 _ _ q⟩, fun i t e => (o.sl i t e).same s1⟩
  have hi : i < σ.length := by rw [g.ln]; exact Nat.ble_eq.mp hi'
  have hρ : i < ρ.length := by rw [g.len]; exact Nat.ble_eq.mp hi'
  -- the others stay, whatever new address is owned
  have keep : ∀ (O' : Own), (∀ a, H a ≠ none → O' a = O a) → ∀ j t', i ≠ j → (ρ.set i (some t))[j]? = some (some t') → SS cv H₀ O' (σ.set i (some v))[j]? j H1 t' := fun O' hO j t' hij e => by
    rw [set_get _ _ _ _ hρ, if_neg hij] at e
    rw [set_get _ _ _ _ hi, if_neg hij]
    have q := o.sl j t' e
    have old : ∀ {P P' : PP}, (∀ z a, H a ≠ none → P z a → P' z a) → ∀ {d : PyData} {v : V}, Rep P H d v → Rep P' H1 d v := fun {P P'} hP {d v} r =>
      Rep.mono (fun a vs e => Rd.same s1 e) (fun a vs r => by
        rcases r with ⟨p, e⟩ | ⟨p, u, e⟩
        · exact .inl ⟨hP _ _ (hp_ne e) p, s1 _ _ e⟩
        · exact .inr ⟨hP _ _ (hp_ne e) p, u, s1 _ _ e⟩) d v r
    cases t' with
    | par d => obtain ⟨w, e, r⟩ := q; exact ⟨w, e, old (fun z a n p => by rw [hO a n]; exact p) r⟩
    | loc d => obtain ⟨w, e, r⟩ := q; exact ⟨w, e, old (fun z a n p => by rw [hO a n]; exact p) r⟩
    | own ds =>
      obtain ⟨p, vs, e, q, h, rs⟩ := q
      exact ⟨p, vs, e, by rw [hO p (hp_ne h)]; exact q, s1 _ _ h, rs.same s1⟩
    | own2 ds =>
      obtain ⟨p, vs, e, q, h, rs⟩ := q
      exact ⟨p, vs, e, by rw [hO p (hp_ne h)]; exact q, s1 _ _ h, Reps.mono (fun a vs e => Rd.same s1 e) (fun a vs r => by
        rcases r with ⟨p, e⟩ | ⟨p, u, e⟩
        · exact .inl ⟨⟨p.1, (hO a (hp_ne e)).trans p.2.1, p.2.2⟩, s1 _ _ e⟩
        · exact .inr ⟨⟨p.1, (hO a (hp_ne e)).trans p.2.1, p.2.2⟩, u, s1 _ _ e⟩) ds _ rs⟩
    | lent ds =>
      obtain ⟨vs, e, q, h, rs⟩ := q
      exact ⟨vs, e, by rw [hO _ (hp_ne h)]; exact q, s1 _ _ h, rs.same s1⟩
    | dct ks => obtain ⟨a, e, q, h⟩ := q; obtain ⟨_, hw⟩ := h.ow; exact ⟨a, e, by rw [hO a (hp_ne hw)]; exact q, h.same s1⟩
    | ex c => obtain ⟨a, e, x⟩ := q; exact ⟨a, e, x.same s1⟩
  have fin : ∀ (O' : Own), (∀ a, H a ≠ none → O' a = O a) → (∀ a i, O' a = some i → F a = none) → (∀ a i, O' a = some i → ∃ vs : OwV, H1 a = some vs.ho) → SS cv H₀ O' (some (some v)) i H1 t → SR cv H₀ F (ρ.set i (some t)) (σ.set i (some v)) H1 := fun O' hO hF hL ht =>
    ⟨g.s0, g.s1.trans s1, by simp [g.len], by simp [g.ln], O', hF, hL, fun j t' e => by
      by_cases hij : i = j
      · subst hij
        rw [set_get _ _ _ _ hρ, if_pos rfl] at e
        cases e
        rw [set_get _ _ _ _ hi, if_pos rfl]
        exact ht
      · exact keep O' hO j t' hij e⟩
  unfold asg at ha
  split at ha
  · rename_i hl
    cases ha
    exact fin O (fun _ _ => rfl) o.fr o1.ls ⟨v, rfl, r1.nl hl⟩
  · split at ha
    · rename_i h2
      have young : ∀ z a, PL H₀ H l z a → z = false ∧ O a = none ∧ H₀ a = none := fun z a p => by
        have p2 : z = false ∧ H a = none := by
          match l, h2, p with
          | l + 2, _, p => exact p
        refine ⟨p2.1, ?_, (g.s0.trans g.s1).free p2.2⟩
        cases q : O a with
        | none => rfl
        | some j => obtain ⟨vs, e⟩ := o.ls a j q; rw [p2.2] at e; cases vs <;> cases e
      split at ha
      · rename_i ds
        split at ha
        · rename_i hf
          cases ha
          obtain ⟨p, vs, rfl, rl, rs⟩ := r1
          rcases rl with ⟨y, e⟩ | ⟨y, u, e⟩
          · have hn : H p = none := by
              match l, h2, y with
              | l + 2, _, y => exact y.2
            refine fin (fun a => if a = p then some i else O a) (fun a n => ?_) (fun a j q => ?_) (fun a j q => ?_) ⟨p, vs, rfl, by simp, e, rs.nl hf⟩
            · rw [if_neg]
              intro z; subst z; exact n hn
            · by_cases z : a = p
              · subst z; exact g.s1.free hn
              · rw [if_neg z] at q; exact o.fr a j q
            · by_cases z : a = p
              · subst z; exact ⟨.l vs, e⟩
              · rw [if_neg z] at q; exact o1.ls a j q
          · exact absurd (young _ _ y).1 (by simp)
        · cases ha
          exact fin O (fun _ _ => rfl) o.fr o1.ls ⟨v, rfl, r1.imp young⟩
      · cases ha
        exact fin O (fun _ _ => rfl) o.fr o1.ls ⟨v, rfl, r1.imp young⟩
    · cases ha
theorem s_set (i : Nat) {x : Str} {pos' : Pos} (hN : X.N.Nodup) (h : PE X e (tF ⟨cv.cv, XO⟩ f)) (hi : X.N[i]? = some x := by rfl) (hx : Loc X.env.scope x := by first | exact Or.inl rfl | exact Or.inr rfl)
    (hs : swapsWith e (some (.Name x pos')) pos.line X.env = pure false := by rfl) (hf : X.fn x = true ∨ X.env.scope.names.lookup x = some .local := by first | exact .inl rfl | exact .inr rfl | assumption)
    (hin : Nat.blt i cv.n = true := by rfl) : PS X (.Assign [.Name x pos'] e pos) (tS cv XO (sSet i f)) := by
  intro pins s σ H D I ⟨H₀, F, ρ, r, g, e', k⟩
  refine ps_set hN hi hx h hs hf pins s σ H D I ?_
  refine tS_bind g e' k fun l d v H1 s1 r1 e1 => ?_
  cases ha : asg l d with
  | none => rw [ha] at e1; cases e1
  | some t =>
    rw [ha] at e1
    cases e1
    exact k _ _ (g.set hin s1 r1 ha)
end
end KT
set_option Elab.async false
set_option linter.all false
set_option maxRecDepth 100000
namespace KT
open PySem PySem.Spec PyProof.Rows L2
section
variable {X : Cx} {XO : XOF} {cv : Cfg} {e : Expr} {f fa fb : FE} {st : Stmt} {rest sa sb : List Stmt} {a b : FS} {pos : Pos}
variable {H₀ F H H1 : Hp} {ρ : Rho} {σ : L2.St}
/-- data that the heap bears without any list -/
theorem Rep.none_lf {P : PP} {d : PyData} {v : V} (r : Rep (fun _ _ => False) H d v) : Rep P H d v := r.imp fun _ _ z => z.elim
/-- a slot is set to what holds no list of others -/
theorem SR.put {i : Nat} {v : V} {t : Slot} (g : SR cv H₀ F ρ σ H) (hi' : Nat.blt i cv.n = true) (ht : ∀ O, SO cv H₀ F ρ σ H O → SS cv H₀ O (some (some v)) i H t) : SR cv H₀ F (ρ.set i (some t)) (σ.set i (some v)) H := by
  obtain ⟨O, o⟩ := g.ex
  have hi : i < σ.length := by rw [g.ln]; exact Nat.ble_eq.mp hi'
  have hρ : i < ρ.length := by rw [g.len]; exact Nat.ble_eq.mp hi'
  refine ⟨g.s0, g.s1, by simp [g.len], by simp [g.ln], O, o.fr, o.ls, fun j t' e => ?_⟩
  by_cases hij : i = j
  · subst hij
    rw [set_get _ _ _ _ hρ, if_pos rfl] at e
    cases e
    rw [set_get _ _ _ _ hi, if_pos rfl]
    exact ht O o
  · rw [set_get _ _ _ _ hρ, if_neg hij] at e
    rw [set_get _ _ _ _ hi, if_neg hij]
    exact o.sl j t' e
theorem SR.putLoc {i : Nat} {v : V} {d : PyData} (g : SR cv H₀ F ρ σ H) (hi : Nat.blt i cv.n = true) (r : Rep (fun _ _ => False) H d v) : SR cv H₀ F (ρ.set i (some (.loc d))) (σ.set i (some v)) H :=
  g.put hi fun O o => ⟨v, rfl, r.none_lf⟩
theorem DR.upd {ks : List PyData} {a p : Addr} {o : HO} (h : DR H ks a) (hne : a ≠ p) : DR (upd H p o) ks a := by
  rcases h with ⟨is, e, h⟩ | ⟨n, h⟩
  · exact .inl ⟨is, e, by rw [upd_ne hne]; exact h⟩
  · exact .inr ⟨n, by rw [upd_ne hne]; exact h⟩
/-- a list of one's own has changed -/
theorem SR.change {i : Nat} {ds ds' : List PyData} {p : Addr} {vs vs' : List V} {O : Own} (g : SR cv H₀ F ρ σ H) (o : SO cv H₀ F ρ σ H O) (hi : ρ[i]? = some (some (.own ds))) (hσ : σ[i]? = some (some (.ref p))) (hO : O p = some i) (hp : H p = some (.lst vs)) (r : Reps (fun _ _ => False) H ds' vs') :
    SR cv H₀ F (ρ.set i (some (.own ds'))) σ (upd H p (.lst vs')) := by
  have hρ : i < ρ.length := (List.getElem?_eq_some_iff.mp hi).1
  have hT : ∀ a xs, Rd H a (.tup xs) → Rd (upd H p (.lst vs')) a (.tup xs) := fun a xs e => rd_upd (o0 := .l vs) hp e
  have hR : ∀ {P : PP}, (∀ z a, P z a → O a = none) → ∀ (d : PyData) (v : V), Rep P H d v → Rep P (upd H p (.lst vs')) d v := fun {P} hP d v r =>
    Rep.mono hT (fun a ws rl => by
      have hne : ∀ z, P z a → a ≠ p := fun z q y => by have := hP z a q; rw [y, hO] at this; cases this
      rcases rl with ⟨q, e⟩ | ⟨q, u, e⟩
      · exact .inl ⟨q, by rw [upd_ne (hne _ q)]; exact e⟩
      · exact .inr ⟨q, u, by rw [upd_ne (hne _ q)]; exact e⟩) d v r
  have hF : ∀ {ds : List PyData} {ws : List V}, Reps (fun _ _ => False) H ds ws → Reps (fun _ _ => False) (upd H p (.lst vs')) ds ws := fun {ds ws} r =>
    Reps.mono hT (fun a ws rl => by rcases rl with ⟨q, _⟩ | ⟨q, _⟩ <;> exact q.elim) ds ws r
  refine ⟨g.s0, fun b u e => ?_, by simp [g.len], g.ln, O, o.fr, fun a j e => ?_, fun j t e => ?_⟩
  · rw [upd_ne]
    · exact g.s1 b u e
    · intro z; subst z; rw [o.fr b i hO] at e; cases e
  · by_cases z : a = p
    · subst z; exact ⟨.l vs', upd_same⟩
    · rw [upd_ne z]; exact o.ls a j e
  · by_cases hij : i = j
    · subst hij
      rw [set_get _ _ _ _ hρ, if_pos rfl] at e
      cases e
      exact ⟨p, vs', hσ, hO, upd_same, hF r⟩
    · rw [set_get _ _ _ _ hρ, if_neg hij] at e
      have q := o.sl j t e
      cases t with
      | par d => obtain ⟨w, e1, rr⟩ := q; exact ⟨w, e1, hR (fun _ _ x => x) d w rr⟩
      | loc d => obtain ⟨w, e1, rr⟩ := q; exact ⟨w, e1, hR (fun _ _ x => x.2.1) d w rr⟩
      | own ds =>
        obtain ⟨q1, ws, e1, hq, hqp, rs⟩ := q
        have hne : q1 ≠ p := fun z => by rw [z, hO] at hq; cases hq; exact hij rfl
        exact ⟨q1, ws, e1, hq, by rw [upd_ne hne]; exact hqp, hF rs⟩
      | own2 ds =>
        obtain ⟨q1, ws, e1, hq, hqp, rs⟩ := q
        have hne : q1 ≠ p := fun z => by rw [z, hO] at hq; cases hq; exact hij rfl
        exact ⟨q1, ws, e1, hq, by rw [upd_ne hne]; exact hqp, Reps.mono hT (fun a ws rl => by
          have hne : ∀ z, (z = false ∧ O a = none ∧ H₀ a = none) → a ≠ p := fun z q y => by have := q.2.1; rw [y, hO] at this; cases this
          rcases rl with ⟨q, e⟩ | ⟨q, u, e⟩
          · exact .inl ⟨q, by rw [upd_ne (hne _ q)]; exact e⟩
          · exact .inr ⟨q, u, by rw [upd_ne (hne _ q)]; exact e⟩) ds ws rs⟩
      | lent ds =>
        obtain ⟨ws, e1, hq, hqp, rs⟩ := q
        have hne : cv.lend ≠ p := fun z => by rw [z, hO] at hq; cases hq; exact hij rfl
        exact ⟨ws, e1, hq, by rw [upd_ne hne]; exact hqp, hF rs⟩
      | dct ks =>
        obtain ⟨q1, e1, hq, hd⟩ := q
        have hne : q1 ≠ p := fun z => by rw [z, hO] at hq; cases hq; exact hij rfl
        exact ⟨q1, e1, hq, hd.upd hne⟩
      | ex c =>
        obtain ⟨w, e1, φ, hx, hφ⟩ := q
        have hne : w ≠ p := fun z => by rw [z, hp] at hx; cases hx
        exact ⟨w, e1, φ, by rw [upd_ne hne]; exact hx, hφ⟩
theorem SR.own {i : Nat} {ds : List PyData} (g : SR cv H₀ F ρ σ H) (hi : ρ[i]? = some (some (.own ds))) : ∃ O p vs, SO cv H₀ F ρ σ H O ∧ σ[i]? = some (some (.ref p)) ∧ O p = some i ∧ H p = some (.lst vs) ∧ Reps (fun _ _ => False) H ds vs := by
  obtain ⟨O, o⟩ := g.ex
  obtain ⟨p, vs, e, q, h, r⟩ := o.sl i _ hi
  exact ⟨O, p, vs, o, e, q, h, r⟩
/-! ### x.append(e) -/
theorem s_append (i : Nat) {x : Str} {xp apos cpos : Pos} (h : PE X e (tF ⟨cv.cv, XO⟩ f)) (hN : X.N[i]? = some x := by rfl) (hv : Vis X.env.scope x := by first | exact Or.inl rfl | exact Or.inr (Or.inl rfl) | exact Or.inr (Or.inr rfl))
    (hd : (x == ("__debug__" : Str)) = false := by decide) (hcd : (x == ("__classdict__" : Str)) = false := by decide)
    (hbase : attributeBase (.Name x xp) "append" X.env (eval (.Name x xp) X.env) = eval (.Name x xp) X.env := by rfl)
    (hfew : ((backTo cpos (starEach [e] X.env)).all (fun x => !x.1) && (backToKw cpos (keywordEach [] X.env)).all (fun x => x.1.isSome)
      && decide ([e].length + ([] : List Keyword).length + (if ([] : List Keyword).isEmpty then 0 else 1) < 30)) = true := by rfl)
    (hline : (apos.endLine == cpos.line) = true := by rfl) (hs1 : starEach [e] X.env = (false, eval e X.env) :: starEach [] X.env := by rfl) (hplain : (backTo cpos (starEach [] X.env)).any (·.1) = false := by rfl)
    (hs : swapsWith (.Call (.Attribute (.Name x xp) "append" apos) [e] [] cpos) none pos.line X.env = pure false := by rfl) :
    PS X (.Expr (.Call (.Attribute (.Name x xp) "append" apos) [e] [] cpos) pos) (tS cv XO (sAppend i f)) := by
  intro pins s σ H D I ⟨H₀, F, ρ, r, g, e', k⟩
  refine ps_expr (pe_bm PySem.F.plainAttrs_list PySem.F.slot_list_append PySem.F.type_list_append mt_append (pe_var (i := i) hN hv hd hcd) (pa_cons h pa_nil hs1) hbase hfew hline hs1 hplain) hs pins s σ H D I ?_
  unfold sAppend at e'
  split at e'
  · rename_i xs hρ
    obtain ⟨O, p, vs, o, hσ, hO, hp, rs⟩ := g.own hρ
    refine ⟨.ref p, hσ, .inl ⟨rfl, vs, SqL.of hp⟩, ?_⟩
    refine tS_bind g e' k fun l d v H1 s1 r1 e1 => ?_
    split at e1
    · rename_i hc
      cases e1
      rw [Bool.and_eq_true] at hc
      have hlen : xs.length < big := of_decide_eq_true hc.2
      refine ⟨p, vs, v, rfl, rfl, s1 _ _ hp, by rw [rs.length]; exact Nat.lt_of_lt_of_le hlen big_le, ?_⟩
      have g1 := g.same s1
      have o1 : SO cv H₀ F ρ σ H1 O := ⟨o.fr, fun a i e => let ⟨vs, q⟩ := o.ls a i e; ⟨vs, s1 _ _ q⟩, fun i t e => (o.sl i t e).same s1⟩
      exact k _ _ (g1.change o1 hρ hσ hO (s1 _ _ hp) ((rs.same s1).append (Reps.one (r1.nl hc.1))))
    · cases e1
  · cases e'
/-! ### y = x.pop() -/
theorem s_pop (j i : Nat) {x y : Str} {xp yp apos cpos : Pos} (hnd : X.N.Nodup) (hN : X.N[i]? = some x := by rfl) (hv : Vis X.env.scope x := by first | exact Or.inl rfl | exact Or.inr (Or.inl rfl) | exact Or.inr (Or.inr rfl))
    (hd : (x == ("__debug__" : Str)) = false := by decide) (hcd : (x == ("__classdict__" : Str)) = false := by decide) (hj : X.N[j]? = some y := by rfl) (hy : Loc X.env.scope y := by first | exact Or.inl rfl | exact Or.inr rfl)
    (hbase : attributeBase (.Name x xp) "pop" X.env (eval (.Name x xp) X.env) = eval (.Name x xp) X.env := by rfl) (hline : (apos.endLine == cpos.line) = true := by rfl)
    (hs : swapsWith (.Call (.Attribute (.Name x xp) "pop" apos) [] [] cpos) (some (.Name y yp)) pos.line X.env = pure false := by rfl) (hf : X.fn y = true ∨ X.env.scope.names.lookup y = some .local := by first | exact .inl rfl | exact .inr rfl | assumption)
    (hjn : Nat.blt j cv.n = true := by rfl) : PS X (.Assign [.Name y yp] (.Call (.Attribute (.Name x xp) "pop" apos) [] [] cpos) pos) (tS cv XO (sPop j i)) := by
  intro pins s σ H D I ⟨H₀, F, ρ, r, g, e', k⟩
  refine ps_set hnd hj hy (pe_bm0 PySem.F.plainAttrs_list PySem.F.slot_list_pop PySem.F.type_list_pop mt_pop (pe_var (i := i) hN hv hd hcd) hbase hline) hs hf pins s σ H D I ?_
  unfold sPop at e'
  split at e'
  · rename_i xs hρ
    obtain ⟨O, p, vs, o, hσ, hO, hp, rs⟩ := g.own hρ
    split at e'
    · rename_i d hd'
      split at e'
      · cases e'
      · rename_i hij
        cases e'
        obtain ⟨v, hv', rv⟩ := rs.get hd'
        refine ⟨.ref p, hσ, .inl ⟨rfl, vs, SqL.of hp⟩, p, vs, v, rfl, rfl, hp, by rw [rs.length]; exact hv', ?_⟩
        have dl : Reps (fun _ _ => False) H xs.dropLast vs.dropLast := by
          rw [List.dropLast_eq_take, List.dropLast_eq_take, rs.length]
          exact rs.take _
        have g2 := g.change o hρ hσ hO hp dl
        refine k _ _ (g2.putLoc hjn ?_)
        exact Rep.mono (fun a ws e => rd_upd (o0 := .l vs) hp e) (fun a ws rl => by rcases rl with ⟨q, _⟩ | ⟨q, _⟩ <;> exact q.elim) d v rv
    · cases e'
  · cases e'
/-! ### x.extend(e) -/
def rExtendD : V → List V → Hp → VK → Prop := fun x vs H Q => ∃ l b xs zs, x = .ref l ∧ vs = [.ref b] ∧ H l = some (.lst xs) ∧ (Rd H b (.lst zs) ∨ Rd H b (.tup zs)) ∧ xs.length + zs.length ≤ sizeLine ∧ Q .non (upd H l (.lst (xs ++ zs)))
theorem extend_tupleW (l : Addr) (items : Array Value) (n : Nat) (b : Addr) (items2 : Array Value) (n2 : Nat) (dd : Option Addr) (sl : Array (Option Value)) (hs0 : ¬(!items.isEmpty && Builtin.List.listTooLong (items.size + items2.size)) = true) (hs1 : items.size ≤ sizeLine) (hs2 : items.size + items2.size ≤ sizeLine + 1) :
    Meets (Builtin.«list.extend» ⟨[.ref l, .ref b], []⟩) (fun _ R s => s.heap.get? l = some { cls := .type "list", dict := none, data := .seq items n, slots := #[] } ∧ s.heap.get? b = some { cls := .type "tuple", dict := dd, data := .seq items2 n2, slots := sl } ∧ R (.ok (.ret Value.none)) { s with heap := s.heap.update l (Obj.mapSeq fun x => x ++ items2), toks := s.toks }) :=
  .of_wp fun prog w A R s h => by
    obtain ⟨hp, g, d, tk, os⟩ := s; obtain ⟨hl, hb, h⟩ := h; have f1 := AutoSeq1.idx_int; have f2 := AutoSeq1.sub_tuple_tuple; have f3 := AutoSeq1.sub_list_list; have f4 := AutoSeq1.sub_tuple_list; have f5 := AutoSeq1.sub_list_tuple;
    have hz' : (items ++ items2).size ≤ sizeLine + 1 := by rw [Array.size_append]; exact hs2
    wp_walk using (wpAny_updateSeq hl rfl (hz := hs1) (_hz' := hz')), AutoSeq1.wpAny_loadPart' hl, AutoSeq1.wpAny_loadPart' hb; exact ⟨_, rfl, h⟩
theorem mt_extendD : MtM X "list.extend" rExtendD := by
  intro pins s σ H x vs v us Q I rx rv h
  obtain ⟨l, b, xs, zs, rfl, rfl, hH, hB, hz, q⟩ := h
  cases rx
  obtain ⟨u, rfl, ru⟩ := rv.one
  cases ru
  obtain ⟨z, its, n, r, hl, e⟩ := I.lstM hH
  rcases hB with hB | hB
  · obtain ⟨z2, its2, n2, r2, hl2, e2⟩ := lstR I hB
    have hsz : its.toArray.size + its2.toArray.size ≤ sizeLine := by rw [List.size_toArray, List.size_toArray]; omega
    have hlong : ¬ (!its.toArray.isEmpty && Builtin.List.listTooLong (its.toArray.size + its2.toArray.size)) = true := by
      rw [notLongL hsz, Bool.and_false]
      exact Bool.false_ne_true
    refine call_meets F.slot_list_extend ⟨_, e, rfl⟩ F.entry_list_extend (F.args_list_extend_2 _ _)
      (AutoSeq1.list_extend_list_list_0 l its.toArray n b its2.toArray n2 hlong (by rw [List.size_toArray]; omega) (by omega)) ⟨e, e2, ?_⟩
    refine ⟨.non, _, I.lset (its' := its ++ its2) hH e (by simp) (r.append r2) ?_, rfl, q⟩
    rw [List.length_append]
    omega
  · obtain ⟨its2, r2, ⟨⟨cls2, dd2, data2, sl2⟩, e2, hc2, n2, hd2⟩, z2⟩ := I.tuple (.inl hB)
    simp only at hc2 hd2
    subst hc2 hd2
    have hl2 := r2.length
    have hsz : its.toArray.size + its2.toArray.size ≤ sizeLine := by rw [List.size_toArray, List.size_toArray]; omega
    have hlong : ¬ (!its.toArray.isEmpty && Builtin.List.listTooLong (its.toArray.size + its2.toArray.size)) = true := by
      rw [notLongL hsz, Bool.and_false]
      exact Bool.false_ne_true
    refine call_meets F.slot_list_extend ⟨_, e, rfl⟩ F.entry_list_extend (F.args_list_extend_2 _ _)
      (extend_tupleW l its.toArray n b its2.toArray n2 dd2 sl2 hlong (by rw [List.size_toArray]; omega) (by omega)) ⟨e, e2, ?_⟩
    refine ⟨.non, _, I.lset (its' := its ++ its2) hH e (by simp) (r.append r2) ?_, rfl, q⟩
    rw [List.length_append]
    omega
theorem s_extend (i : Nat) {x : Str} {xp apos cpos : Pos} (h : PE X e (tF ⟨cv.cv, XO⟩ f)) (hN : X.N[i]? = some x := by rfl) (hv : Vis X.env.scope x := by first | exact Or.inl rfl | exact Or.inr (Or.inl rfl) | exact Or.inr (Or.inr rfl))
    (hd : (x == ("__debug__" : Str)) = false := by decide) (hcd : (x == ("__classdict__" : Str)) = false := by decide)
    (hbase : attributeBase (.Name x xp) "extend" X.env (eval (.Name x xp) X.env) = eval (.Name x xp) X.env := by rfl)
    (hfew : ((backTo cpos (starEach [e] X.env)).all (fun x => !x.1) && (backToKw cpos (keywordEach [] X.env)).all (fun x => x.1.isSome)
      && decide ([e].length + ([] : List Keyword).length + (if ([] : List Keyword).isEmpty then 0 else 1) < 30)) = true := by rfl)
    (hline : (apos.endLine == cpos.line) = true := by rfl) (hs1 : starEach [e] X.env = (false, eval e X.env) :: starEach [] X.env := by rfl) (hplain : (backTo cpos (starEach [] X.env)).any (·.1) = false := by rfl)
    (hs : swapsWith (.Call (.Attribute (.Name x xp) "extend" apos) [e] [] cpos) none pos.line X.env = pure false := by rfl) :
    PS X (.Expr (.Call (.Attribute (.Name x xp) "extend" apos) [e] [] cpos) pos) (tS cv XO (sExtend i f)) := by
  intro pins s σ H D I ⟨H₀, F, ρ, r, g, e', k⟩
  refine ps_expr (pe_bm PySem.F.plainAttrs_list PySem.F.slot_list_extend PySem.F.type_list_extend mt_extendD (pe_var (i := i) hN hv hd hcd) (pa_cons h pa_nil hs1) hbase hfew hline hs1 hplain) hs pins s σ H D I ?_
  unfold sExtend at e'
  split at e'
  · rename_i xs hρ
    obtain ⟨O, p, vs, o, hσ, hO, hp, rs⟩ := g.own hρ
    refine ⟨.ref p, hσ, .inl ⟨rfl, vs, SqL.of hp⟩, ?_⟩
    refine tS_bind g e' k fun l d v H1 s1 r1 e1 => ?_
    have g1 := g.same s1
    have o1 : SO cv H₀ F ρ σ H1 O := ⟨o.fr, fun a i e => let ⟨vs, q⟩ := o.ls a i e; ⟨vs, s1 _ _ q⟩, fun i t e => (o.sl i t e).same s1⟩
    split at e1
    · rename_i ys
      split at e1
      · rename_i hc
        cases e1
        rw [Bool.and_eq_true] at hc
        have hlen : xs.length + ys.length ≤ big := of_decide_eq_true hc.2
        obtain ⟨q, us, rfl, rl, ru⟩ := r1
        refine ⟨p, q, vs, us, rfl, rfl, s1 _ _ hp, .inl rl.rd, by rw [rs.length, ru.length]; exact le_big hlen, ?_⟩
        exact k _ _ (g1.change o1 hρ hσ hO (s1 _ _ hp) ((rs.same s1).append (ru.nl hc.1)))
      · cases e1
    · rename_i ys
      split at e1
      · rename_i hc
        cases e1
        rw [Bool.and_eq_true] at hc
        have hlen : xs.length + ys.length ≤ big := of_decide_eq_true hc.2
        obtain ⟨q, us, rfl, hq, ru⟩ := r1
        refine ⟨p, q, vs, us, rfl, rfl, s1 _ _ hp, .inr hq, by rw [rs.length, ru.length]; exact le_big hlen, ?_⟩
        exact k _ _ (g1.change o1 hρ hσ hO (s1 _ _ hp) ((rs.same s1).append (ru.nl hc.1)))
      · cases e1
    · cases e1
  · cases e'
end
end KT
set_option Elab.async false
set_option linter.all false
set_option maxRecDepth 100000
namespace KT
open PySem PySem.Spec PyProof.Rows L2
section
variable {X : Cx} {XO : XOF} {cv : Cfg} {e : Expr} {f fa fb fc : FE} {st : Stmt} {rest sa sb body : List Stmt} {a b : FS} {pos : Pos} {tg iter : Expr} {fi : FI} {tf : FT}
variable {H₀ F F' H H1 : Hp} {ρ : Rho} {σ : L2.St}
/-! ### while -/
theorem s_while {c : Expr} (hp : PassesOwn (model X.prog X.w) X.A X.env X.xe) (hc : PT X c (tTest (tF ⟨cv.cv, XO⟩ fc))) (hb : PSs X body (tS cv XO b)) : PS X (.While c body [] pos) (tS cv XO (sWhile fc b)) :=
  PS.imp (ps_while hp hc hb) fun D σ H ⟨H₀, F, ρ, r, g, e, k⟩ => by
    refine ⟨fun m σ' H' => ∃ ρ', SR cv H₀ F ρ' σ' H' ∧ whileGo fc b m ρ' = some r, ⟨wFuel, ρ, g, e⟩, ?_⟩
    rintro m σ1 H1 ⟨ρ1, g1, e1⟩
    cases m with
    | zero => cases e1
    | succ m =>
      unfold whileGo at e1
      refine tS_bind g1 e1 k fun l d v H2 s2 r2 e2 => ?_
      have g2 := g1.same s2
      split at e2
      · refine ⟨true, r2, L2.iteT ?_⟩
        refine ⟨fun σ' H' => ∃ ρ', SR cv H₀ F ρ' σ' H' ∧ whileGo fc b m ρ' = some r, fun σ' H' ⟨ρ', g', e'⟩ => ⟨m, Nat.lt_succ_self m, ρ', g', e'⟩, ?_⟩
        cases hbr : b ρ1 with
        | none => rw [hbr] at e2; cases e2
        | some x =>
          rw [hbr] at e2
          refine ⟨H₀, F, ρ1, x, g2, hbr, ?_⟩
          cases x with
          | next ρ' => exact fun σ' H' g' => ⟨ρ', g', e2⟩
          | cont ρ' => exact fun σ' H' g' => ⟨ρ', g', e2⟩
          | brk ρ' => cases e2; exact k
          | ret d => cases e2; exact k
          | exc c ρ' => cases e2; exact k
      · refine ⟨false, r2, L2.iteF ?_⟩
        cases e2
        exact k σ1 H2 g2
      · cases e2
/-! ### what a loop walks -/
/-- the iterator J yields the data ds wherever Z stays -/
def Yields (Z : Hp) (J : It) (ds : List PyData) : Prop :=
  ∀ H2, Same Z H2 → ∀ i, (∀ d, ds[i]? = some d → J.go i H2 ∧ ∀ x H3, J.yld i H2 x H3 → Same H2 H3 ∧ Rep (fun _ _ => False) H3 d x) ∧ (i = ds.length → J.stop i H2)
/-- it does so wherever the tuples stay, and the lists that were allowed -/
def ItFrom (H₀ Hs : Hp) (l : Nat) (ds : List PyData) (J : It) (H1 : Hp) : Prop :=
  ∀ Z, (∀ a xs, Rd H1 a (.tup xs) → Rd Z a (.tup xs)) → (∀ a vs, Rl (PL H₀ Hs l) H1 a vs → Rd Z a (.lst vs)) → Yields Z J ds
def tI (XO : XOT) (fi : FI) : TI := fun σ H R => ∃ H₀ Hs ρ r, G XO.cv H₀ Hs ρ σ H ∧ fi ρ = some r ∧ (∀ l ds J H1, r = .ok l ds → Same H H1 → ItFrom H₀ Hs l ds J H1 → R J H1) ∧ ∀ c H', r = .exc c → Same H H' → XO.f c σ H'
theorem PI.imp {wi wi' : TI} (h : PI X tg iter wi) (g : ∀ σ H R, wi' σ H R → wi σ H R) : PI X tg iter wi' := fun pins s σ H R I q => h pins s σ H R I (g σ H R q)
theorem PI.or {wi wi' : TI} (h : PI X tg iter wi) (h' : PI X tg iter wi') : PI X tg iter (fun σ H R => wi σ H R ∨ wi' σ H R) := fun pins s σ H R I q => q.elim (h pins s σ H R I) (h' pins s σ H R I)
theorem yields_list {K : PySem.W.Frag} {Z : Hp} {p : Addr} {vs : List V} {ds : List PyData} (hl : Rd Z p (.lst vs)) (r : Reps (fun _ _ => False) Z ds vs) : Yields Z (Itl K p) ds := fun H2 s i => by
  have hq : SqL K H2 p vs := .inl (Rd.same s hl)
  refine ⟨fun d hd => ?_, fun hi => ⟨vs, hq, by rw [r.length, hi]; exact Nat.le_refl _⟩⟩
  obtain ⟨v, hv, rv⟩ := r.get hd
  refine ⟨⟨vs, v, hq, hv⟩, fun x H3 y => ?_⟩
  obtain ⟨e, y⟩ := y
  subst e
  have := y vs hq
  rw [hv] at this
  cases this
  exact ⟨Same.refl _, rv.same s⟩
theorem yields_tup {K : PySem.W.Frag} {Z : Hp} {p : Addr} {vs : List V} {ds : List PyData} (hl : Rd Z p (.tup vs)) (r : Reps (fun _ _ => False) Z ds vs) : Yields Z (Itt K p) ds := fun H2 s i => by
  have hq : SqT K H2 p vs := .inl (Rd.same s hl)
  refine ⟨fun d hd => ?_, fun hi => ⟨vs, hq, by rw [r.length, hi]; exact Nat.le_refl _⟩⟩
  obtain ⟨v, hv, rv⟩ := r.get hd
  refine ⟨⟨vs, v, hq, hv⟩, fun x H3 y => ?_⟩
  obtain ⟨e, y⟩ := y
  subst e
  have := y vs hq
  rw [hv] at this
  cases this
  exact ⟨Same.refl _, rv.same s⟩
theorem i_seq {XO : XOT} (h : PE X e (tF XO f)) : PI X tg e (tI XO (iSeq f)) := PI.imp (PI.or (pi_list h) (pi_tup h)) fun σ H R ⟨H₀, Hs, ρ, r, g, e, k, kx⟩ => by
  unfold iSeq at e
  split at e
  · rename_i l ds hf
    split at e
    · rename_i hlf
      cases e
      refine .inl ⟨H₀, Hs, ρ, _, g, hf, ⟨fun l' d' v H1 e' s1 r1 => ?_, fun c H' e => (nomatch e)⟩⟩
      cases e'
      obtain ⟨p, vs, rfl, rl, rs⟩ := r1
      refine ⟨p, rfl, ⟨vs, .inl rl.rd⟩, k l ds (Itl X.K p) H1 rfl s1 fun Z hT hL => yields_list (hL p vs rl) ?_⟩
      exact Reps.free hT ds vs hlf rs
    · cases e
  · rename_i l ds hf
    split at e
    · rename_i hlf
      cases e
      refine .inr ⟨H₀, Hs, ρ, _, g, hf, ⟨fun l' d' v H1 e' s1 r1 => ?_, fun c H' e => (nomatch e)⟩⟩
      cases e'
      obtain ⟨p, vs, rfl, hp, rs⟩ := r1
      refine ⟨p, rfl, ⟨vs, .inl hp⟩, k 2 ds (Itt X.K p) H1 rfl s1 fun Z hT hL => yields_tup (hT p vs hp) ?_⟩
      exact Reps.free hT ds vs hlf rs
    · cases e
  · rename_i c hf
    cases e
    exact .inl ⟨H₀, Hs, ρ, _, g, hf, ⟨fun l' d' v H1 e' s1 r1 => (nomatch e'), fun c' H' e' s => kx c' H' (by cases e'; rfl) s⟩⟩
  · cases e
/-! ### for -/
/-- what stays while others' own lists may change -/
def froz (O : Own) (H : Hp) : Hp := fun a => match O a with
  | some _ => none
  | none => H a
theorem froz_none {O : Own} {H : Hp} {a : Addr} (h : O a = none) : froz O H a = H a := by unfold froz; rw [h]
theorem froz_some {O : Own} {H : Hp} {a : Addr} {i : Nat} (h : O a = some i) : froz O H a = none := by unfold froz; rw [h]
theorem rd_froz {O : Own} {H : Hp} {a : Addr} {xs : List V} (ls : ∀ a i, O a = some i → ∃ vs : OwV, H a = some vs.ho) (h : Rd H a (.tup xs)) : Rd (froz O H) a (.tup xs) := by
  cases q : O a with
  | none =>
    rcases h with h | ⟨u, h⟩
    · exact .inl (by rw [froz_none q]; exact h)
    · exact .inr ⟨u, by rw [froz_none q]; exact h⟩
  | some i =>
    obtain ⟨vs, hv⟩ := ls a i q
    rcases h with h | ⟨_, h⟩ <;> (rw [h] at hv; cases vs <;> cases hv)
theorem SR.freeze {O : Own} (g : SR cv H₀ F ρ σ H) (o : SO cv H₀ F ρ σ H O) : SR cv H₀ (froz O H) ρ σ H ∧ Same F (froz O H) := by
  have hF : Same F (froz O H) := fun b u e => by
    have : O b = none := by
      cases q : O b with
      | none => rfl
      | some i => rw [o.fr b i q] at e; cases e
    rw [froz_none this]
    exact g.s1 b u e
  refine ⟨⟨g.s0.trans hF, fun b u e => ?_, g.len, g.ln, O, fun a i e => froz_some e, o.ls, o.sl⟩, hF⟩
  cases q : O b with
  | none => rw [froz_none q] at e; exact e
  | some i => rw [froz_some q] at e; cases e
theorem SR.thaw (g : SR cv H₀ F' ρ σ H) (h0 : Same H₀ F) (h : Same F F') : SR cv H₀ F ρ σ H :=
  ⟨h0, h.trans g.s1, g.len, g.ln, let ⟨O, o⟩ := g.ex; ⟨O, fun a i e => h.free (o.fr a i e), o.ls, o.sl⟩⟩
theorem KS.thaw {D : Ends} {r : RS} (h0 : Same H₀ F) (h : Same F F') (k : KS cv XO H₀ F D r) : KS cv XO H₀ F' D r := by
  cases r with
  | next ρ' => exact fun σ' H' g => k σ' H' (g.thaw h0 h)
  | ret d => exact fun v H' s rp => k v H' (h.trans s) rp
  | exc c ρ' => exact fun σ' H' g => k σ' H' (g.thaw h0 h)
  | brk ρ' => exact fun σ' H' g => k σ' H' (g.thaw h0 h)
  | cont ρ' => exact fun σ' H' g => k σ' H' (g.thaw h0 h)
/-- a target, on data without lists -/
def TgD (cv : Cfg) (g : TG) (tf : FT) : Prop := ∀ (H₀ F : Hp) (ρ ρ1 : Rho) (σ : L2.St) (H : Hp) (d : PyData) (x : V) (Q : L2.St → Hp → Prop), SR cv H₀ F ρ σ H → Rep (fun _ _ => False) H d x → tf d ρ = some ρ1 → (∀ σ1, SR cv H₀ F ρ1 σ1 H → Q σ1 H) → g x σ H Q
theorem for_core {J : It} {ds : List PyData} {D : Ends} {r : RS} {g : TG} (s : SR cv H₀ F ρ σ H) (hy : Yields F J ds) (ht : TgD cv g tf) (e : forGo tf b ds ρ = some r) (k : KS cv XO H₀ F D r) :
    ∃ W : Nat → Nat → L2.St → Hp → Prop, (∃ m, W 0 m σ H) ∧ ∀ i m σ H, W i m σ H →
      (J.stop i H ∧ D.nx σ H) ∨ (J.go i H ∧ ∃ N : L2.St → Hp → Prop, (∀ σ' H', N σ' H' → ∃ m', m' < m ∧ W (i + 1) m' σ' H') ∧ ∀ x H', J.yld i H x H' → g x σ H' fun σ2 H2 => tS cv XO b { D with nx := N, ct := N, bk := D.nx } σ2 H2) := by
  refine ⟨fun i m σ H => ∃ ρ', SR cv H₀ F ρ' σ H ∧ forGo tf b (ds.drop i) ρ' = some r ∧ i ≤ ds.length ∧ m = ds.length - i, ⟨ds.length, ρ, s, e, Nat.zero_le _, rfl⟩, ?_⟩
  rintro i m σ1 H1 ⟨ρ1, s1, e1, hi, rfl⟩
  obtain ⟨y1, y2⟩ := hy H1 s1.s1 i
  cases hd : ds[i]? with
  | none =>
    have hl : ds.length ≤ i := List.getElem?_eq_none_iff.mp hd
    have hil : i = ds.length := by omega
    rw [List.drop_eq_nil_of_le hl] at e1
    cases e1
    exact .inl ⟨y2 hil, k σ1 H1 s1⟩
  | some d =>
    obtain ⟨hlt, hde⟩ := List.getElem?_eq_some_iff.mp hd
    rw [List.drop_eq_getElem_cons hlt, hde] at e1
    obtain ⟨hgo, hyl⟩ := y1 d hd
    refine .inr ⟨hgo, fun σ' H' => ∃ ρ', SR cv H₀ F ρ' σ' H' ∧ forGo tf b (ds.drop (i + 1)) ρ' = some r, fun σ' H' ⟨ρ', s', e'⟩ => ⟨ds.length - (i + 1), by omega, ρ', s', e', by omega, rfl⟩, fun x H2 y => ?_⟩
    obtain ⟨sm, rx⟩ := hyl x H2 y
    unfold forGo at e1
    cases htf : tf d ρ1 with
    | none => rw [htf] at e1; cases e1
    | some ρ2 =>
      rw [htf] at e1
      refine ht H₀ F ρ1 ρ2 σ1 H2 d x _ (s1.same sm) rx htf fun σ2 s2 => ?_
      dsimp only at e1
      cases hb : b ρ2 with
      | none => rw [hb] at e1; cases e1
      | some y =>
        rw [hb] at e1
        refine ⟨H₀, F, ρ2, y, s2, hb, ?_⟩
        cases y with
        | next ρ' => exact fun σ' H' g' => ⟨ρ', g', e1⟩
        | cont ρ' => exact fun σ' H' g' => ⟨ρ', g', e1⟩
        | brk ρ' => cases e1; exact k
        | ret d => cases e1; exact k
        | exc c ρ' => cases e1; exact k
/-- a target of the text and what it does on data -/
structure Tg (X : Cx) (cv : Cfg) (tg : Expr) (tf : FT) : Prop where
  ex : ∃ g, PG X tg g ∧ TgD cv g tf
theorem g_name (i : Nat) {x : Str} (hN : X.N.Nodup) (hi : X.N[i]? = some x := by rfl) (hx : Loc X.env.scope x := by first | exact Or.inl rfl | exact Or.inr rfl)
    (hf : X.fn x = true ∨ X.env.scope.names.lookup x = some .local := by first | exact .inl rfl | exact .inr rfl | assumption) (hin : Nat.blt i cv.n = true := by rfl) : Tg X cv (.Name x pos) (tgName i) :=
  ⟨gName i, pg_name hN hi hx hf, fun H₀ F ρ ρ1 σ H d x Q s r e q => by cases e; exact q _ (s.putLoc hin r)⟩
theorem s_for (hp : PassesOwn (model X.prog X.w) X.A X.env X.xe) (hc : X.calm = true) (hi : PI X tg iter (tI ⟨cv.cv, XO⟩ fi)) (ht : Tg X cv tg tf) (hb : PSs X body (tS cv XO b)) (hs : ∀ x, foldedSetIterable iter X.env x = pure x := by intro _; rfl) :
    PS X (.For tg iter body [] pos) (tS cv XO (sFor fi tf b)) := by
  obtain ⟨gt, hg, hd⟩ := ht.ex
  refine PS.imp (ps_for hp hc hi hg hb hs) fun D σ H ⟨H₀, F, ρ, r, g, e, k⟩ => ?_
  unfold sFor at e
  cases hf : fi ρ with
  | none => rw [hf] at e; cases e
  | some x =>
    rw [hf] at e
    refine ⟨H₀, H, ρ, x, g.g, hf, fun l ds J H1 ex s1 it => ?_, fun c H' ex s => ?_⟩
    · subst ex
      dsimp only at e
      split at e
      · rename_i h2
        obtain ⟨O, o⟩ := g.ex
        have o1 : SO cv H₀ F ρ σ H1 O := ⟨o.fr, fun a i e => let ⟨vs, q⟩ := o.ls a i e; ⟨vs, s1 _ _ q⟩, fun i t e => (o.sl i t e).same s1⟩
        obtain ⟨gf, hF⟩ := (g.same s1).freeze o1
        refine for_core gf (it (froz O H1) (fun a xs hx => ?_) fun a vs rl => ?_) hd e (k.thaw g.s0 hF)
        · exact rd_froz o1.ls hx
        · have no : ∀ z, PL H₀ H l z a → O a = none := fun z p => by
            have hn : H a = none := by
              match l, h2, p with
              | l + 2, _, p => exact p.2
            cases q : O a with
            | none => rfl
            | some i => obtain ⟨vs, hv⟩ := o.ls a i q; rw [hn] at hv; cases vs <;> cases hv
          rcases rl with ⟨p, hx⟩ | ⟨p, u, hx⟩
          · exact .inl (by rw [froz_none (no _ p)]; exact hx)
          · exact .inr ⟨u, by rw [froz_none (no _ p)]; exact hx⟩
      · cases e
    · subst ex
      cases e
      exact k σ H' (g.same s)
end
end KT
set_option Elab.async false
set_option linter.all false
set_option maxRecDepth 100000
namespace KT
open PySem PySem.Spec PyProof.Rows L2
/-! ### what a def promises: its mirror g -/
def spD (cv : Nat → Value) (n : Nat) (g : FC) : Sp := fun vs H Q E => ∃ ds r, vs.length = n ∧ Reps (fun _ _ => True) H ds vs ∧ g ds = some r ∧
  (∀ d v H', r = .ok d → Same H H' → Rep (fun z a => z = false ∧ H a = none) H' d v → Q v H') ∧ ∀ c H', r = .exc c → Same H H' → E (cv c) none H'
/-- an error of a callee reaches what this body wants of errors -/
def XLink (CX : CXT) (X : Cx) (XO : XOT) : Prop := ∀ pins σ H s e s', Inv X pins σ H s → CX X.stack H s (fun cls _ H' => ∃ c, cls = XO.cv c ∧ XO.f c σ H') e s' → X.xe e s'
/-- a def of the text that keeps its promise -/
structure FnF (CX : CXT) (P : Program) (w : World) (K : PySem.W.Frag) (mg : Str → Option Value) (base : Heap) (cv : Nat → Value) (n : Nat) (x : Str) (ar : Nat) (g : FC) : Prop where
  ex : ∃ f fd ps, FnOk P w K mg base CX n f fd ps (spD cv ar g) ∧ mg x = some (.ref f) ∧ PySem.W.keepIn K (.ref f) = true ∧ Binds K fd ps []
section
variable {X : Cx} {XO : XOT} {CX : CXT} {cv : Nat → Value} {a b c e : Expr} {es : List Expr} {fa fb fc f : FE} {fs : List FE} {pos p : Pos} {n ar : Nat} {x : Str} {g : FC}
theorem x_call (F : FnF CX X.prog X.w X.K X.mg X.base XO.cv n x ar g) (hr : Room n X.A) (L : XLink CX X XO) (ha : PA X (e :: es) (tAs XO fs)) (hn : Nat.beq ar fs.length = true := by rfl) (hg : Gl X x := by rfl)
    (hdb : (x == ("__debug__" : Str)) = false := by decide) (he : starEach (e :: es) X.env = (false, eval e X.env) :: starEach es X.env := by exact star_cons rfl) (hpl : (backTo pos (starEach es X.env)).any (·.1) = false := by exact star_any rfl) :
    PE X (.Call (.Name x p) (e :: es) [] pos) (tF XO (eCall g fs)) := by
  obtain ⟨f, fd, ps, F, hm, hk, hb⟩ := F.ex
  intro pins s σ H Q I ⟨H₀, Hs, ρ, r, gg, ee, kk⟩
  refine wpAny_Call_Name_kw (ld_glob I hg hm ?_ hdb)
  have hA : tAs XO fs σ H (fun vs H1 => spD XO.cv ar g vs H1 Q (fun cls _ H' => ∃ c, cls = XO.cv c ∧ XO.f c σ H')) := by
    refine tAs_bind gg ee kk fun l ds vs H1 s1 g1 r1 hl e1 k1 => ?_
    have hlen : vs.length = ar := by rw [r1.length, hl, Nat.eq_of_beq_eq_true hn]
    cases hg : g ds with
    | none => rw [hg] at e1; cases e1
    | some rc =>
      rw [hg] at e1
      refine ⟨ds, rc, hlen, r1.imp fun _ _ _ => trivial, hg, fun d v H' er s rp => ?_, fun c H' er s => ?_⟩
      · subst er
        exact k1.give (l := 2) e1 s (rp.imp fun z a q => ⟨q.1, g1.s1.free q.2⟩)
      · subst er
        exact ⟨c, rfl, k1.2 c H' (by cases e1; rfl) s⟩
  refine PySem.W.callWith_K (h₀ := X.base) I.ok.mod.kin hk (thn (ha pos pins s σ H _ I hA) fun us s1 ⟨vs, H1, I1, r, q⟩ => ⟨I1.kIn, ?_⟩) he hpl
  have hl : (us ++ []).length = ps.length := by rw [List.append_nil, ← r.length]; exact F.len _ _ _ _ q
  have hB := hb s1 us I1.kIn hl
  rw [List.append_nil] at hB
  refine wpAny_call (codeAny_mono (F.run X.A X.stack s1 H1 ⟨us, []⟩ us vs Q _ hr I1.env0 hB r q) fun r s' hq => ?_)
  cases r with
  | error e => exact L pins σ H1 s1 e s' I1 hq
  | ok fl =>
    cases fl with
    | ret u => exact I1.after hq
    | next => exact False.elim hq
    | brk => exact False.elim hq
    | cont => exact False.elim hq
/-! ### Python's own calls -/
/-- a call of one argument by data -/
def CallD (r : List V → Hp → VK → Prop) (op : PyData → Option PyData) : Prop :=
  ∀ (H₀ Hs H : Hp) (l : Nat) (x d : PyData) (v : V) (Q : VK), Same H₀ Hs → Same Hs H → op x = some d → Rep (PL H₀ Hs l) H x v → (∀ z H', Same H H' → Rep (PL H₀ Hs 2) H' d z → Q z H') → r [v] H Q
theorem call_read {r : List V → Hp → VK → Prop} {op : PyData → Option PyData} (ho : CallD r op) {σ : L2.St} {H : Hp} {Q : VK} (h : tF XO (e1 op true fa) σ H Q) : tCB r (tCons (tF XO fa) tNil) σ H Q := by
  obtain ⟨H₀, Hs, ρ, rr, g, e, kk⟩ := h
  refine tF_bind g e kk fun l x v H1 s1 g1 r1 e1 k1 => ?_
  cases hd : op x with
  | none => rw [hd] at e1; cases e1
  | some d =>
    rw [hd] at e1
    exact ho H₀ Hs H1 l x d v Q g1.s0 g1.s1 hd r1 fun z H' s rp => k1.give e1 s rp
theorem x_callB {id : String} {r : List V → Hp → VK → Prop} {op : PyData → Option PyData} (hc : CallR X (.builtin id) r) (ho : CallD r op) (hm : X.mg x = none) (hv : bootBuiltins x = some (.builtin id)) (ha : PE X a (tF XO fa)) (hg : Gl X x) (hn : x ≠ "__name__") (hdb : (x == ("__debug__" : Str)) = false)
    (he : starEach [a] X.env = (false, eval a X.env) :: starEach [] X.env) (hpl : (backTo pos (starEach [] X.env)).any (·.1) = false) : PE X (.Call (.Name x p) [a] [] pos) (tF XO (e1 op true fa)) :=
  PE.imp (pe_callB hc hg hm hv (pa_cons ha pa_nil he) hn hdb he hpl) fun _ _ _ h => call_read ho h
theorem x_len (C : BC X) (ha : PE X a (tF XO fa)) (hg : Gl X "len" := by rfl) (he : starEach [a] X.env = (false, eval a X.env) :: starEach [] X.env := by exact star_cons rfl) (hpl : (backTo pos (starEach [] X.env)).any (·.1) = false := by exact star_any rfl) : PE X (.Call (.Name "len" p) [a] [] pos) (tF XO (eLen fa)) :=
  x_callB (call_len_seq.or call_len_str) (fun H₀ Hs H l x d v Q s0 s1 e rx q => by
    unfold dLen at e
    split at e
    · cases e
      obtain ⟨p, vs, rfl, hp, rs⟩ := rx
      exact .inl ⟨p, vs, rfl, .inr (.inl hp), q _ H (Same.refl H) (by rw [rs.length]; rfl)⟩
    · cases e
      obtain ⟨p, vs, rfl, hp, rs⟩ := rx
      exact .inl ⟨p, vs, rfl, .inl (.inl hp.rd), q _ H (Same.refl H) (by rw [rs.length]; rfl)⟩
    · split at e
      · rename_i z hz
        cases e
        exact .inr ⟨z, by rw [show v = V.str z from rx], le_big hz, q _ H (Same.refl H) rfl⟩
      · cases e
    · cases e) C.mlen PySem.boot_len ha hg (by decide) (by decide) he hpl
/-! ### isinstance(x, T) -/
def tyName : Ty → String
  | .int => "int"
  | .bool => "bool"
  | .str => "str"
  | .tuple => "tuple"
  | .list => "list"
theorem call_isi : CallR X (.builtin "isinstance") (fun xs H Q => ∃ x T t b, xs = [x, .ty T] ∧ TyOf X.K H x t ∧ PySem.W.kitOne X.K t (.type T) = some b ∧ Q (.bl b) H) := by
  intro pins s σ H xs us Q I r h
  obtain ⟨x, T, t, b, rfl, ht, hk, q⟩ := h
  obtain ⟨u, w', rfl, rx, ry⟩ := vals2 r
  cases ry
  exact isinst_ok I rx ht hk fun tk => ⟨.bl b, H, I.tok _, rfl, q⟩
/-- the answers hang on no written part -/
theorem kit_all {K : PySem.W.Frag} : ∀ (t : Ty) (T : String), (T = "NoneType" ∨ T = "bool" ∨ T = "int" ∨ T = "str" ∨ T = "list" ∨ T = "tuple") →
    PySem.W.kitOne K (.type T) (.type (tyName t)) = some (T == tyName t || (T == "bool" && tyName t == "int")) := by
  intro t T h
  rcases h with rfl | rfl | rfl | rfl | rfl | rfl <;> cases t <;> kernel_rfl
end
end KT
set_option Elab.async false
set_option linter.all false
set_option maxRecDepth 100000
namespace KT
open PySem PySem.Spec PyProof.Rows L2
section
variable {X : Cx} {XO : XOT} {a b c e : Expr} {fa fb fc f : FE} {pos p p2 : Pos}
/-! ### isinstance(x, T) -/
theorem ty_of {K : PySem.W.Frag} {P : PP} {H : Hp} (t : Ty) : ∀ {d : PyData} {v : V}, (∀ kvs, d ≠ .dict kvs) → Rep P H d v → ∃ T, TyOf K H v (.type T) ∧ PySem.W.kitOne K (.type T) (.type (tyName t)) = some (isTy t d)
  | .none, _, _, h => by cases (show _ = _ from h); exact ⟨_, .non, by rw [kit_all t _ (.inl rfl)]; cases t <;> rfl⟩
  | .bool _, _, _, h => by cases (show _ = _ from h); exact ⟨_, .bl _, by rw [kit_all t _ (.inr (.inl rfl))]; cases t <;> rfl⟩
  | .int _, _, _, h => by cases (show _ = _ from h); exact ⟨_, .int _, by rw [kit_all t _ (.inr (.inr (.inl rfl)))]; cases t <;> rfl⟩
  | .str _, _, _, h => by cases (show _ = _ from h); exact ⟨_, .str _, by rw [kit_all t _ (.inr (.inr (.inr (.inl rfl))))]; cases t <;> rfl⟩
  | .tuple _, _, _, ⟨_, _, e, h, _⟩ => by subst e; exact ⟨_, .tup h, by rw [kit_all t _ (.inr (.inr (.inr (.inr (.inr rfl)))))]; cases t <;> rfl⟩
  | .list _, _, _, ⟨_, _, e, h, _⟩ => by
    subst e
    rcases h with ⟨_, h⟩ | ⟨_, _, h⟩
    · exact ⟨_, .lst h, by rw [kit_all t _ (.inr (.inr (.inr (.inr (.inl rfl)))))]; cases t <;> rfl⟩
    · exact ⟨_, .frz h, by rw [kit_all t _ (.inr (.inr (.inr (.inr (.inl rfl)))))]; cases t <;> rfl⟩
  | .dict _, _, n, _ => absurd rfl (n _)
theorem x_isi (t : Ty) {x : Str} (C : BC X) (ha : PE X a (tF XO fa)) (hm : X.mg x = none) (hv : bootBuiltins x = some (.type (tyName t))) (hgx : Gl X x) (hnx : x ≠ "__name__") (hdx : (x == ("__debug__" : Str)) = false) (hg : Gl X "isinstance")
    (hs1 : starEach [a, .Name x p2] X.env = (false, eval a X.env) :: starEach [.Name x p2] X.env) (hpl : (backTo pos (starEach [.Name x p2] X.env)).any (·.1) = false) : PE X (.Call (.Name "isinstance" p) [a, .Name x p2] [] pos) (tF XO (eIs t fa)) :=
  PE.imp (pe_callB call_isi hg C.misi PyProof.Rows.boot_isinstance (pa_cons ha (pa_cons (pe_bltn (v := .ty (tyName t)) hgx hm hv rfl hnx hdx) pa_nil rfl) hs1) (by decide) (by decide) hs1 hpl) fun σ H Q ⟨H₀, Hs, ρ, rr, g, e, kk⟩ => by
    refine tF_bind g e kk fun l x v H1 s1 g1 r1 e1 k1 => ?_
    have hn : ∀ kvs, x ≠ .dict kvs := fun kvs z => by subst z; cases e1
    obtain ⟨T, hT, hk⟩ := ty_of (K := X.K) t hn r1
    have hd : dIs t x = some (.bool (isTy t x)) := by cases x <;> first | rfl | exact absurd rfl (hn _)
    rw [hd] at e1
    exact ⟨v, tyName t, _, _, rfl, hT, hk, k1.give e1 (Same.refl _) rfl⟩
theorem x_isint (C : BC X) (ha : PE X a (tF XO fa)) (hgx : Gl X "int" := by rfl) (hg : Gl X "isinstance" := by rfl) (hs1 : starEach [a, .Name "int" p2] X.env = (false, eval a X.env) :: starEach [.Name "int" p2] X.env := by exact star_cons rfl) (hpl : (backTo pos (starEach [.Name "int" p2] X.env)).any (·.1) = false := by exact star_any rfl) :
    PE X (.Call (.Name "isinstance" p) [a, .Name "int" p2] [] pos) (tF XO (eIs .int fa)) := x_isi .int C ha C.mint PyProof.Rows.boot_int hgx (by decide) (by decide) hg hs1 hpl
theorem x_isbool (C : BC X) (ha : PE X a (tF XO fa)) (hgx : Gl X "bool" := by rfl) (hg : Gl X "isinstance" := by rfl) (hs1 : starEach [a, .Name "bool" p2] X.env = (false, eval a X.env) :: starEach [.Name "bool" p2] X.env := by exact star_cons rfl) (hpl : (backTo pos (starEach [.Name "bool" p2] X.env)).any (·.1) = false := by exact star_any rfl) :
    PE X (.Call (.Name "isinstance" p) [a, .Name "bool" p2] [] pos) (tF XO (eIs .bool fa)) := x_isi .bool C ha C.mbool PyProof.Rows.boot_bool hgx (by decide) (by decide) hg hs1 hpl
theorem x_isstr (C : BC X) (ha : PE X a (tF XO fa)) (hgx : Gl X "str" := by rfl) (hg : Gl X "isinstance" := by rfl) (hs1 : starEach [a, .Name "str" p2] X.env = (false, eval a X.env) :: starEach [.Name "str" p2] X.env := by exact star_cons rfl) (hpl : (backTo pos (starEach [.Name "str" p2] X.env)).any (·.1) = false := by exact star_any rfl) :
    PE X (.Call (.Name "isinstance" p) [a, .Name "str" p2] [] pos) (tF XO (eIs .str fa)) := x_isi .str C ha C.mstr PyProof.Rows.boot_str hgx (by decide) (by decide) hg hs1 hpl
theorem x_istuple (C : BC X) (ha : PE X a (tF XO fa)) (hgx : Gl X "tuple" := by rfl) (hg : Gl X "isinstance" := by rfl) (hs1 : starEach [a, .Name "tuple" p2] X.env = (false, eval a X.env) :: starEach [.Name "tuple" p2] X.env := by exact star_cons rfl) (hpl : (backTo pos (starEach [.Name "tuple" p2] X.env)).any (·.1) = false := by exact star_any rfl) :
    PE X (.Call (.Name "isinstance" p) [a, .Name "tuple" p2] [] pos) (tF XO (eIs .tuple fa)) := x_isi .tuple C ha C.mtuple PyProof.Rows.boot_tuple hgx (by decide) (by decide) hg hs1 hpl
end
end KT
set_option Elab.async false
set_option linter.all false
set_option maxRecDepth 100000
namespace KT
open PySem PySem.Spec PyProof.Rows L2
/-! ### errors that pass -/
/-- from heap h to h': an error at ea has been noted in the frames fs; all others stay -/
structure Flown (fs : List Addr) (ea : Addr) (oe : Obj) (h h' : Heap) : Prop where
  keep : ∀ b o, h.get? b = some o → b ≠ ea → b ∉ fs → h'.get? b = some o
  frm : ∀ b o, h.get? b = some o → b ∈ fs → ∃ sl, h'.get? b = some { o with slots := sl }
  ex : ∃ oe' vs T oT ts, h'.get? ea = some oe' ∧ oe'.cls = oe.cls ∧ oe'.dict = oe.dict ∧ oe'.data = .fields vs ∧ vs[1]? = some (.ref T) ∧ h.get? T = none ∧ T ≠ ea ∧ h'.get? T = some oT ∧ oT.data = .fields ts ∧ ts[3]? = some .none
/-- an error's first entry: none yet, or one that stands still -/
def HeadOk (h : Heap) (ea : Addr) (vs : Array Value) : Prop :=
  vs[1]? = some .none ∨ ∃ T oT ts, vs[1]? = some (.ref T) ∧ T ≠ ea ∧ h.get? T = some oT ∧ oT.data = .fields ts ∧ ts[3]? = some .none
theorem dict_mapFields (o : Obj) (f : Array Value → Array Value) : (o.mapFields f).dict = o.dict := by
  obtain ⟨_, _, dt, _⟩ := o
  cases dt <;> rfl
section
variable {M : Model} {A : Around} {E : Value → Shared → Prop} {s : Shared} {base : Heap} {env : Env} {outer : List Env} {L ea : Addr} {oe : Obj} {vs : Array Value} {Q : Unit → Shared → Prop}
theorem fly_entry {hd0 : Value} {nx : Bool} (hfr : A.frames = some (env :: outer)) (ff : s.heap.FunFrames base (env :: outer)) (hf : env.frame = some L) (he : s.heap.get? ea = some oe) (hd : oe.data = .fields vs) (hsz : 1 < vs.size)
    (k : ∀ h', Flown (frs (env :: outer)) ea oe s.heap h' → Q () { s with heap := h' }) :
    wpAny M A (do let fo ← frameOf env; let pl ← entryPlaceOf L nx; let t ← EntryCells.newEntry hd0 fo .none (rawInt L) .none pl; setField (.ref ea) 1 t) (fun _ s' => wpAny M A (setFlight (.ref ea) none) Q E s') E s := by
  have nfr : ea ∉ frs (env :: outer) := fun hm => by
    obtain ⟨_, o, ho, no⟩ := ff.mem hm
    rw [he] at ho
    cases ho
    exact no vs hd
  refine wpAny_bind (wpAny_frameOf_fun hfr ff hf fun g hg => ?_)
  refine wpAny_bind (wpAny_entryPlaceOf fun pl hpl => ?_)
  unfold EntryCells.newEntry newFields
  refine wpAny_bind (wpAny_newObj_type ?_ (hpl.sizeOk5 _ _ _ _ _))
  generalize hob : ({ cls := .type "traceback", dict := none, data := .fields ([hd0, .ref L, .none, rawInt L, .none] ++ (if pl.isEmpty then List.replicate 6 Value.none else pl)).toArray } : Obj) = ob
  have obd : ∃ ts, ob.data = .fields ts ∧ 3 < ts.size := ⟨_, by rw [← hob], by simp only [List.size_toArray, List.length_append, List.length_cons, List.length_nil] <;> omega⟩
  obtain ⟨ts, obd, ob3⟩ := obd
  have eg : g.get? ea = some oe := (hg.2.1 ea nfr).trans he
  have ltE : ea < g.objs.size := Heap.lt_size eg
  have e2 : (g.push ob).get? ea = some oe := Heap.get?_push_of_some ob eg
  refine wpAny_setField e2 hd hsz ?_
  have d3 := Obj.data_mapFields hd (·.setIfInBounds 1 (Value.ref g.objs.size))
  have e3 := Heap.get?_update_self (Obj.mapFields (·.setIfInBounds 1 (Value.ref g.objs.size))) e2 (Obj.isFreed_of_fields d3)
  have neT : g.objs.size ≠ ea := Nat.ne_of_gt ltE
  have obf : ob.isFreed = false := Obj.isFreed_of_fields obd
  have t3 : ((g.push ob).update ea (Obj.mapFields (·.setIfInBounds 1 (Value.ref g.objs.size)))).get? g.objs.size = some ob := by
    rw [Heap.get?_update_other _ _ neT.symm]
    exact Heap.get?_push_size g obf
  unfold setFlight
  refine wpAny_bind (wpAny_field e3 d3 (x := .ref g.objs.size) (by simp [hsz]) ?_)
  rw [if_pos (by simp)]
  refine wpAny_setField t3 obd ob3 (k _ ?_)
  have stay : ∀ b o, b ≠ ea → g.get? b = some o → (((g.push ob).update ea (Obj.mapFields (·.setIfInBounds 1 (Value.ref g.objs.size)))).update g.objs.size (Obj.mapFields (·.setIfInBounds 3 ((none : Option Addr).elim Value.none fun f => rawInt f)))).get? b = some o := fun b o hb q => by
    rw [Heap.get?_update_other _ _ (Nat.ne_of_gt (Heap.lt_size q)), Heap.get?_update_other _ _ hb.symm]
    exact Heap.get?_push_of_some _ q
  refine ⟨fun b o q hb hn => stay b o hb ((hg.2.1 b hn).trans q), fun b o q hb => ?_, ?_⟩
  · obtain ⟨sl, q'⟩ := hg.2.2 b o q
    exact ⟨sl, stay b _ (fun z => nfr (z ▸ hb)) q'⟩
  · refine ⟨_, _, g.objs.size, _, _, (Heap.get?_update_other _ _ neT).trans e3, Obj.cls_mapFields _ _, dict_mapFields _ _, d3, by simp [hsz], ?_, neT, Heap.get?_update_self _ t3 (Obj.isFreed_of_fields (Obj.data_mapFields obd _)), Obj.data_mapFields obd _, by simp [ob3]⟩
    cases q : s.heap.get? g.objs.size with
    | none => rfl
    | some o =>
      have := Heap.lt_size q
      rw [hg.1] at this
      exact absurd this (Nat.lt_irrefl _)
theorem same_flight {h : Heap} {T : Addr} {oT : Obj} {ts : Array Value} (hT : h.get? T = some oT) (hd : oT.data = .fields ts) (h3 : ts[3]? = some .none) : (h.update T (Obj.mapFields (·.setIfInBounds 3 Value.none))).get? T = some oT := by
  have hz : ts.setIfInBounds 3 Value.none = ts := by
    obtain ⟨hlt, hv⟩ := Array.getElem?_eq_some_iff.mp h3
    apply Array.ext
    · simp
    · intro i h1 h2
      by_cases q : 3 = i
      · subst q; simp [hv]
      · rw [Array.getElem_setIfInBounds, if_neg q]
  rw [Heap.get?_update_self _ hT (Obj.isFreed_of_fields (Obj.data_mapFields hd _))]
  obtain ⟨c, d, dt, sl⟩ := oT
  cases hd
  show some ({ cls := c, dict := d, data := .fields (ts.setIfInBounds 3 Value.none), slots := sl } : Obj) = _
  rw [hz]
/-- an error is noted in this frame, and stands still -/
theorem fly (hfr : A.frames = some (env :: outer)) (ff : s.heap.FunFrames base (env :: outer)) (hf : env.frame = some L) (he : s.heap.get? ea = some oe) (hd : oe.data = .fields vs) (hh : HeadOk s.heap ea vs)
    (k : ∀ h', Flown (frs (env :: outer)) ea oe s.heap h' → Q () { s with heap := h' }) :
    wpAny M A (noteFrame (.ref ea) env) (fun _ s' => wpAny M A (setFlight (.ref ea) none) Q E s') E s := by
  unfold noteFrame
  simp only [hf]
  rcases hh with h1 | ⟨T, oT, ts, h1, neT, hT, hdT, h3⟩
  · refine wpAny_bind (wpAny_field he hd h1 ?_)
    rw [if_neg (by decide)]
    exact fly_entry hfr ff hf he hd (Array.getElem?_eq_some_iff.mp h1).1 k
  · refine wpAny_bind (wpAny_field he hd h1 ?_)
    rw [if_pos (by simp)]
    refine wpAny_bind (wpAny_field hT hdT h3 ?_)
    rw [if_neg (by simp [rawInt])]
    refine wpAny_bind (wpAny_setField hT hdT (Array.getElem?_eq_some_iff.mp h3).1 ?_)
    have same : ∀ b o, s.heap.get? b = some o → (s.heap.update T (Obj.mapFields (·.setIfInBounds 3 Value.none))).get? b = some o := fun b o q => by
      by_cases z : b = T
      · subst z
        rw [hT] at q
        cases q
        exact same_flight hT hdT h3
      · rw [Heap.get?_update_other _ _ (Ne.symm z)]; exact q
    have back : ∀ b, (s.heap.update T (Obj.mapFields (·.setIfInBounds 3 Value.none))).get? b = none → s.heap.get? b = none := fun b q => by
      cases z : s.heap.get? b with
      | none => rfl
      | some o => rw [same b o z] at q; cases q
    refine fly_entry hfr (ff.of_keeps fun b o q _ => ⟨o, same b o q, rfl⟩) hf (same _ _ he) hd (Array.getElem?_eq_some_iff.mp h1).1 fun h' fl => k h' ⟨fun b o q => fl.keep b o (same b o q), fun b o q => fl.frm b o (same b o q), ?_⟩
    obtain ⟨oe', ws, T', oT', us, x1, x2, x3, x4, x5, x6, x7⟩ := fl.ex
    exact ⟨oe', ws, T', oT', us, x1, x2, x3, x4, x5, back _ x6, x7⟩
end
end KT
set_option Elab.async false
set_option linter.all false
set_option maxRecDepth 100000
namespace KT
open PySem PySem.Spec PyProof.Rows L2
/-- an error at ea that has passed at least one frame: what its objects are, and that they are new and not tracked -/
def XT (h0 : Heap) (H' : Hp) (ea : Addr) (cls : Value) (h : Heap) : Prop := h0.get? ea = none ∧ H' ea = none ∧
  ∃ oe vs T oT ts, h.get? ea = some oe ∧ oe.cls = cls ∧ oe.dict = none ∧ oe.data = .fields vs ∧ vs[1]? = some (.ref T) ∧ h0.get? T = none ∧ H' T = none ∧ T ≠ ea ∧ h.get? T = some oT ∧ oT.data = .fields ts ∧ ts[3]? = some .none
def CX1 (P : Program) (w : World) : CXT := fun outer H s E e s' => ∃ ea cls H', e = .ref ea ∧ s'.os = s.os ∧ AllBare s'.gens ∧ Un (frs outer) [] H H' s.heap s'.heap ∧ HOk P w H' s'.heap ∧ XT s.heap H' ea cls s'.heap ∧ E cls none H'
theorem Un.narrow {fs fs' ex : List Addr} {H H' : Hp} {h h' : Heap} (u : Un fs ex H H' h h') (hx : ∀ b o, h.get? b = some o → b ∉ ex) (hf : ∀ b o, h.get? b = some o → b ∈ fs → b ∈ fs') : Un fs' [] H H' h h' where
  keep := fun b o q n hb _ => u.keep b o q n (fun z => hb (hf b o q z)) (hx b o q)
  slot := fun b o q n _ _ => u.any q n (hx b o q)
  free := fun b o q n _ => u.free b o q n (hx b o q)
  there := fun b o q _ => u.there b o q (hx b o q)
  tups := u.tups
  frzs := u.frzs
  tbls := u.tbls
/-- frames stand as long as their objects keep their data -/
theorem funFrames_of {h h' base base' : Heap} : ∀ {l : List Env}, h.FunFrames base l → (∀ b ∈ frs l, ∀ o, h.get? b = some o → ∃ sl, h'.get? b = some { o with slots := sl }) → (∀ b ∈ frs l, base'.get? b = none) → h'.FunFrames base' l
  | [], _, _, _ => trivial
  | env :: rest, ⟨hk, ⟨L, o, hf, hn, ho, hd⟩, hr⟩, ks, kb => by
    have hm : L ∈ frs (env :: rest) := by unfold frs; rw [List.filterMap_cons, hf]; exact List.mem_cons_self ..
    have hs : ∀ b, b ∈ frs rest → b ∈ frs (env :: rest) := fun b hb => by unfold frs at hb ⊢; rw [List.filterMap_cons, hf]; exact List.mem_cons_of_mem _ hb
    obtain ⟨sl, e⟩ := ks L hm o ho
    exact ⟨hk, ⟨L, _, hf, kb L hm, e, hd⟩, funFrames_of hr (fun b hb => ks b (hs b hb)) fun b hb => kb b (hs b hb)⟩
theorem hok_of {P : Program} {w : World} {H : Hp} {h h' : Heap} (x : HOk P w H h) (k : ∀ b o u, H b = some u → h.get? b = some o → h'.get? b = some o) : HOk P w H h' := fun a o e =>
  (x a o e).stay (fun b u hb q => by
    rcases hb with rfl | hb
    · exact k b u _ e q
    · exact k b u _ hb q) (fun _ q => q) fun _ _ q => q
theorem obj_ex {P : Program} {w : World} {H : Hp} {h : Heap} {a : Addr} : ∀ {o : HO}, ObjOk P w H h a o → ∃ ob, h.get? a = some ob
  | .lst _, ⟨_, _, _, _, e⟩ => ⟨_, e⟩
  | .tup _, ⟨_, _, _, o, e, _⟩ => ⟨o, e⟩
  | .dK _, ⟨_, _, _, _, o, _, _, e, _⟩ => ⟨o, e⟩
  | .dT _, ⟨_, _, _, _, o, _, _, e, _⟩ => ⟨o, e⟩
  | .dN _, ⟨_, _, _, _, _, o, _, _, e, _⟩ => ⟨o, e⟩
  | .set _ _, ⟨o, _, _, _, e, _⟩ => ⟨o, e⟩
  | .ins _ _ _, ⟨_, _, _, e, _⟩ => ⟨_, e⟩
  | .own _, ⟨o, e⟩ => ⟨o, e⟩
  | .xd _, ⟨_, ⟨_, _, _, e, _⟩, _⟩ => ⟨_, e⟩
  | .rng _ _, ⟨_, _, _, e⟩ => ⟨_, e⟩
  | .frz _ _, ⟨e, _⟩ => ⟨_, e⟩
  | .tbl _, e => ⟨_, e⟩
  | .met _ _, e => ⟨_, e⟩
  | .ext _, ⟨_, ⟨o, e⟩, _⟩ => ⟨o, e⟩
/-- what an error's note leaves of the world -/
theorem flown_un {P : Program} {w : World} {fs : List Addr} {ea : Addr} {oe : Obj} {H₀ H' : Hp} {h₀ h h2 : Heap} (U : Un fs [] H₀ H' h₀ h) (hok : HOk P w H' h) (hfree : ∀ b ∈ fs, H' b = none) (e0 : h₀.get? ea = none) (e1 : H' ea = none)
    (fl : Flown fs ea oe h h2) (hd : oe.dict = none) : Un fs [] H₀ H' h₀ h2 ∧ HOk P w H' h2 ∧ XT h₀ H' ea oe.cls h2 := by
  have U1 : Un fs [ea] H' H' h h2 := by
    refine ⟨fun b o q _ hb hx => fl.keep b o q (fun z => hx (by simp [z])) hb, fun b o q _ hb _ => fl.frm b o q hb, fun _ _ _ z _ => z, fun b o q hx => ?_, fun _ _ z => z, fun _ _ _ z => z, fun _ ps z => ⟨#[], by rw [z]; simp⟩⟩
    by_cases hb : b ∈ fs
    · obtain ⟨sl, z⟩ := fl.frm b o q hb
      exact ⟨_, z⟩
    · exact ⟨o, fl.keep b o q (fun z => hx (by simp [z])) hb⟩
  refine ⟨KT.Un.narrow ((U.mono (fun _ z => z) fun _ z => (nomatch z)).trans U1) (fun b o q hm => ?_) fun _ _ _ z => z, hok_of hok fun b o u hu q => fl.keep b o q (fun z => ?_) fun hm => ?_, e0, e1, ?_⟩
  · have z : b = ea := by simpa using hm
    rw [z, e0] at q
    cases q
  · rw [z, e1] at hu; cases hu
  · rw [hfree b hm] at hu; cases hu
  · obtain ⟨oe', vs, T, oT, ts, x1, x2, x3, x4, x5, x6, x7, x8, x9, x10⟩ := fl.ex
    refine ⟨oe', vs, T, oT, ts, x1, x2, x3.trans hd, x4, x5, ?_, ?_, x7, x8, x9, x10⟩
    · cases q : h₀.get? T with
      | none => rfl
      | some o => obtain ⟨o', z⟩ := U.there T o q (by simp); rw [x6] at z; cases z
    · cases q : H' T with
      | none => rfl
      | some u => obtain ⟨o, z⟩ := obj_ex (hok T u q); rw [x6] at z; cases z
theorem XT.head {h0 : Heap} {H' : Hp} {ea : Addr} {cls : Value} {h : Heap} (x : XT h0 H' ea cls h) : ∃ oe vs, h.get? ea = some oe ∧ oe.cls = cls ∧ oe.dict = none ∧ oe.data = .fields vs ∧ HeadOk h ea vs := by
  obtain ⟨_, _, oe, vs, T, oT, ts, he, hc, hdd, hd, h1, _, _, ne, hT, hdT, h3⟩ := x
  exact ⟨oe, vs, he, hc, hdd, hd, .inr ⟨T, oT, ts, h1, ne, hT, hdT, h3⟩⟩
/-- an error that has come back from a call (or lies new) is noted in this frame -/
theorem fly1 {P : Program} {w : World} {A : Around} {env : Env} {outer : List Env} {L ea : Addr} {cls : Value} {base : Heap} {H₀ H H' : Hp} {s₀ s s' : Shared} {Q : Unit → Shared → Prop} {Ee : Value → Shared → Prop}
    (hfr : A.frames = some (env :: outer)) (hf : env.frame = some L) (ff : s.heap.FunFrames base (env :: outer)) (hfree : ∀ b ∈ frs (env :: outer), H b = none)
    (U : Un (frs (env :: outer)) [] H₀ H s₀.heap s.heap) (un : Un (frs (env :: outer)) [] H H' s.heap s'.heap) (hok : HOk P w H' s'.heap) (xt : XT s.heap H' ea cls s'.heap)
    (k : ∀ h2, Un (frs (env :: outer)) [] H₀ H' s₀.heap h2 → HOk P w H' h2 → XT s₀.heap H' ea cls h2 → Q () { s' with heap := h2 }) :
    wpAny (model P w) A (noteFrame (.ref ea) env) (fun _ s2 => wpAny (model P w) A (setFlight (.ref ea) none) Q Ee s2) Ee s' := by
  obtain ⟨oe, vs, he, hc, hdd, hd, hh⟩ := xt.head
  have slots : ∀ b ∈ frs (env :: outer), ∀ o, s.heap.get? b = some o → ∃ sl, s'.heap.get? b = some { o with slots := sl } := fun b hb o e => un.slot b o e (hfree b hb) hb (by simp)
  have free' : ∀ b ∈ frs (env :: outer), H' b = none := fun b hb => by
    obtain ⟨_, o, e, _⟩ := ff.mem hb
    exact un.free b o e (hfree b hb) (by simp)
  refine fly (base := PySem.W.hideAll s'.heap (frs (env :: outer))) hfr (funFrames_of ff slots fun b hb => PySem.W.hideAll_none _ hb) hf he hd hh fun h2 fl => ?_
  have e0 : s₀.heap.get? ea = none := by
    cases q : s₀.heap.get? ea with
    | none => rfl
    | some o => obtain ⟨o', z⟩ := U.there ea o q (by simp); rw [xt.1] at z; cases z
  obtain ⟨y1, y2, y3⟩ := flown_un (U.trans un) hok free' e0 xt.2.1 fl hdd
  exact k h2 y1 y2 (hc ▸ y3)
theorem outer_un {env : Env} {outer : List Env} {L : Addr} {H H' : Hp} {h h' : Heap} (hf : env.frame = some L) (hL : h.objs.size ≤ L) (U : Un (frs (env :: outer)) [] H H' h h') : Un (frs outer) [] H H' h h' :=
  KT.Un.narrow U (fun _ _ _ z => nomatch z) fun b o q hm => by
    unfold frs at hm
    rw [List.filterMap_cons, hf] at hm
    rcases List.mem_cons.mp hm with z | z
    · subst z; exact absurd (Heap.lt_size q) (Nat.not_lt.mpr hL)
    · exact z
theorem inner_un {env : Env} {outer : List Env} {L : Addr} {H H' : Hp} {h h' : Heap} (hf : env.frame = some L) (U : Un (frs outer) [] H H' h h') : Un (frs (env :: outer)) [] H H' h h' :=
  U.mono (fun b hb => by unfold frs; rw [List.filterMap_cons, hf]; exact List.mem_cons_of_mem _ hb) fun _ z => z
theorem wpAny_leave {P : Program} {w : World} {A : Around} {env : Env} {e : Value} {Q : Unit → Shared → Prop} {Ee : Value → Shared → Prop} {s : Shared} (h : wpAny (model P w) A (noteFrame e env) (fun _ s2 => wpAny (model P w) A (setFlight e none) Q Ee s2) Ee s) :
    wpAny (model P w) A (leaving env e) Q Ee s := by
  unfold leaving
  exact wpAny_bind h
/-- a new error -/
theorem xt_new {P : Program} {w : World} {H : Hp} {h h' : Heap} {ea : Addr} {cls : Value} {args : List Value} (hok : HOk P w H h) (hx : Heap.MadeExcOf h h' ea cls args) : h.get? ea = none ∧ H ea = none ∧ ∃ oe vs, h'.get? ea = some oe ∧ oe.cls = cls ∧ oe.dict = none ∧ oe.data = .fields vs ∧ HeadOk h' ea vs := by
  obtain ⟨t, he, _, _⟩ := hx.there
  refine ⟨hx.new, ?_, _, _, he, rfl, rfl, rfl, .inl rfl⟩
  cases q : H ea with
  | none => rfl
  | some u => obtain ⟨o, e⟩ := obj_ex (hok ea u q); rw [hx.new] at e; cases e
section
variable {CX : CXT} {P : Program} {w : World} {K : PySem.W.Frag} {mg : Str → Option Value} {base : Heap} {N : List Str} {qual : Str} {scope : Scope} {f : Addr} {cd : Value} {A : Around} {outer : List Env} {s : Shared} {H : Hp} {E : XK} {cv : Nat → Value}
theorem own_frame {X : Cx} {pins : List (Addr × Obj)} {σ : L2.St} {H1 : Hp} {s1 : Shared} (I : Inv X pins σ H1 s1) (hs : X.stack = X.env :: X.outer) : X.env.frame = some X.env.locals := by
  rcases I.ok.stk with z | z
  · rw [hs] at z
    have := congrArg List.length z
    simp at this
  · exact z.2
/-- a callee's error passes through a def -/
theorem xlink_cx : XLink (CX1 P w) (cxOf (CX1 P w) P w K mg base N qual scope f cd A outer s H E) ⟨cv, fun c _ H' => E (cv c) none H'⟩ := by
  intro pins σ H1 s1 e s' I hcx
  obtain ⟨ea, cls, H', rfl, os, bare, un, hok, xt, c, rfl, hE⟩ := hcx
  have hf := own_frame I rfl
  exact wpAny_leave (fly1 (H₀ := H) (s₀ := s) I.ok.frames hf I.stack I.stkFree (inner_un hf I.base) un hok xt fun h2 y1 y2 y3 => ⟨ea, cv c, H', rfl, os.trans I.os, bare, outer_un hf I.ok.above y1, y2, y3, hE⟩)
/-- a new error is raised here -/
def RLink (cv : Nat → Value) (X : Cx) (XO : XOF) : Prop := ∀ pins σ H s ea c h' args, Inv X pins σ H s → Heap.MadeExcOf s.heap h' ea (cv c) args → XO c σ H → X.xe (.ref ea) { s with heap := h' }
theorem rlink_cx : RLink cv (cxOf (CX1 P w) P w K mg base N qual scope f cd A outer s H E) (fun c _ H' => E (cv c) none H') := by
  intro pins σ H1 s1 ea c h' args I hx hE
  have hf := own_frame I rfl
  obtain ⟨x1, x2, oe, vs, he, hc, hdd, hd, hh⟩ := xt_new I.hok hx
  have U : Un _ [] H H1 s.heap s1.heap := inner_un hf I.base
  have e0 : s.heap.get? ea = none := by
    cases q : s.heap.get? ea with
    | none => rfl
    | some o => obtain ⟨o', z⟩ := U.there ea o q (by simp); rw [x1] at z; cases z
  refine wpAny_leave (fly (base := PySem.W.hideAll h' (frs _)) I.ok.frames (funFrames_of I.stack (fun b hb o e => ⟨o.slots, hx.keeps b o e⟩) fun b hb => PySem.W.hideAll_none _ hb) hf he hd hh fun h2 fl => ?_)
  obtain ⟨y1, y2, y3⟩ := flown_un (U.trans (Un.kept hx.keeps)) (I.hok.kept hx.keeps) I.stkFree e0 x2 fl hdd
  exact ⟨ea, cv c, H1, rfl, I.os, I.bare, outer_un hf I.ok.above y1, y2, hc ▸ y3, hE⟩
end
/-! ### raise C(text) -/
def vbm : List Value := [.type "ValueError", .type "Exception", .type "BaseException", .type "object"]
/-- an own error class of the text, number c -/
structure ExcF (K : PySem.W.Frag) (mg : Str → Option Value) (cv : Nat → Value) (x : Str) (c : Nat) : Prop where
  ex : ∃ C, cv c = .ref C ∧ mg x = some (.ref C) ∧ PySem.W.excIn K C vbm "ValueError.__new__" = true
theorem exc_of_in {K : PySem.W.Frag} {h : Heap} {C : Addr} {bmB : List Value} {newId : String} (X : K.In h) (q : PySem.W.excIn K C bmB newId = true) :
    ∃ bm N nm qn bs hdct sn sub ab col dd k0 k1 k2 k3 k5 mN, h.get? C = some (excClassObj nm qn C N bs bm hdct sn sub ab col dd k0 k1 k2 k3 k5 newId) ∧ h.Ns N mN ∧ mN "__init__" = none ∧ OwnTail h bmB bm := by
  unfold PySem.W.excIn at q
  split at q
  · rename_i dd cd sl ho
    split at q
    · rename_i C' bm k0 k1 k2 k3 n k5 hm hs
      simp only [Bool.and_eq_true, beq_iff_eq, Bool.not_eq_true'] at q
      obtain ⟨⟨⟨⟨⟨rfl, rfl⟩, hdel⟩, ht⟩, hok⟩, hni⟩ := q
      obtain ⟨nm, bs, mro, ns, qn, hd, sn, sub, ab, col, del⟩ := cd
      dsimp only at hm hdel hok hni
      subst hm hdel
      have hsl : sl = #[k0, k1, k2, k3, some (.builtin n), k5] := by
        obtain ⟨l⟩ := sl
        simp only at hs
        rw [hs]
      subst hsl
      exact ⟨bm, ns, nm, qn, bs, hd, sn, sub, ab, col, dd, k0, k1, k2, k3, k5, _, X _ _ ho, .of_isNs (PySem.W.isNs_of_in X hok), PySem.W.nsMap_none_of_in X hok hni, PySem.W.tail_of_in X ht⟩
    · cases q
  · cases q
section
variable {X : Cx} {XO : XOF} {cv : Cfg} {pos np cpos p1 : Pos} {x m : Str} {c : Nat} {j : Nat}
theorem s_raise (R : ExcF X.K X.mg cv.cv x c) (hh : X.A.handled = none) (L : RLink cv.cv X XO) (hg : Gl X x := by rfl) (hdb : (x == ("__debug__" : Str)) = false := by decide)
    (he : starEach [.Constant (.str m) j p1] X.env = (false, eval (.Constant (.str m) j p1) X.env) :: starEach [] X.env := by rfl) (hpl : (backTo cpos (starEach [] X.env)).any (·.1) = false := by exact star_any rfl) :
    PS X (.Raise (some (.Call (.Name x np) [.Constant (.str m) j p1] [] cpos)) none pos) (tS cv XO (sRaise c)) := by
  obtain ⟨C, hcv, hm, hq⟩ := R.ex
  intro pins s σ H D I ⟨H₀, F, ρ, r, g, e, k⟩
  cases e
  obtain ⟨tl, N, nm, q, bs, hdct, sn, sub, ab, col, dd, k0, k1, k2, k3, k5, mN, hC, hN, hni, T⟩ := exc_of_in I.ok.mod.kin hq
  have FB := PySem.F.excBase_ValueError
  refine wpAny_Raise_call_subT (C := C) (nm := nm) (q := q) (N := N) (bs := bs) (bm := tl) (hdct := hdct) (sn := sn) (sub := sub) (ab := ab) (col := col) (dd := dd) (k0 := k0) (k1 := k1) (k2 := k2) (k3 := k3) (k5 := k5)
    FB (mN := mN) (T.hasType FB.hasBase) hh (by rw [he]; show (false || (backTo cpos (starEach [] X.env)).any (·.1)) = false; rw [hpl]; rfl) hni (ld_glob I hg hm ⟨rfl, ?_⟩ hdb)
  have hA := pa_cons (X := X) (pe_str (x := m) (j := j) (pos := p1)) pa_nil he cpos pins s σ H (fun vs H1 => vs = [.str m] ∧ H1 = H) I ⟨rfl, rfl⟩
  rw [he] at hA ⊢
  refine Calls.evalArgs_plain (wpAny_mono hA (fun vs s₂ h₂ => ?_) fun _ _ y => y)
  obtain ⟨ws, H1, I2, rv, rfl, rfl⟩ := h₂
  refine ⟨rfl, ?_, I2.bk _ _ hC, hN.keeps I2.bk, T.keeps I2.bk, fun h' ea hx => ?_⟩
  · show vs.length ≤ sizeLine
    rw [← rv.length]
    exact Nat.le_trans (by simp) (show 1 ≤ sizeLine by decide)
  · refine L pins σ H1 s₂ ea c h' vs I2 ?_ (k σ H1 g)
    rw [hcv]
    exact hx
end
/-! ### a def keeps its promise: its mirror is what its body is worth -/
structure MF (mg : Str → Option Value) : Prop where
  mlen : mg "len" = none
  mint : mg "int" = none
  mbool : mg "bool" = none
  mstr : mg "str" = none
  mtuple : mg "tuple" = none
  mlist : mg "list" = none
  misi : mg "isinstance" = none
  mrange : mg "range" = none
  menum : mg "enumerate" = none
  mzip : mg "zip" = none
  mrev : mg "reversed" = none
/-- what a body's proof is given -/
structure Body (P : Program) (w : World) (cv : Nat → Value) (k : Nat) (X : Cx) (XO : XOF) : Prop where
  C : BC X
  hr : Room k X.A
  L : XLink (CX1 P w) X ⟨cv, XO⟩
  R : RLink cv X XO
  pw : PassesOwn (model X.prog X.w) X.A X.env X.xe
  hc : X.calm = true
  nd : X.N.Nodup
theorem start_sr {cv : Nat → Value} {N ps : List Str} {vs : List V} {ds : List PyData} {H : Hp} (hp : N.take ps.length = ps) (hl : vs.length = ps.length) (r : Reps (fun _ _ => True) H ds vs) :
    SR ⟨cv, N.length, 0⟩ H H (ds.map (fun d => some (.par d)) ++ List.replicate (N.length - ds.length) none) (L2.start N vs) H := by
  have hle : ps.length ≤ N.length := by
    have := congrArg List.length hp
    rw [List.length_take] at this
    omega
  have hd := r.length
  refine ⟨Same.refl H, Same.refl H, ?_, ?_, fun _ => none, fun a i e => (nomatch e), fun a i e => (nomatch e), fun i t e => ?_⟩
  · simp; omega
  · unfold L2.start; simp; omega
  · by_cases hi : i < ds.length
    · rw [List.getElem?_append_left (by simpa using hi)] at e
      rw [List.getElem?_map] at e
      cases hx : ds[i]? with
      | none => rw [hx] at e; cases e
      | some d =>
        rw [hx] at e
        cases e
        obtain ⟨v, hv, rv⟩ := r.get hx
        refine ⟨v, ?_, rv.imp fun _ _ _ => rfl⟩
        unfold L2.start
        rw [List.getElem?_append_left (by simp; omega), List.getElem?_map, hv]
        rfl
    · rw [List.getElem?_append_right (by simp; omega)] at e
      rw [List.getElem?_replicate] at e
      split at e <;> cases e
theorem fun_okD {P : Program} {w : World} {K : PySem.W.Frag} {mg : Str → Option Value} {base : Heap} {cv : Nat → Value} {x qual : Str} {st : Stmt} {f : Addr} {fd : FuncData} {N ps : List Str} {k : Nat} {b : FS} (M : MF mg) (F : Fun K x qual st f fd) (S : FnScope N ps (defScope st))
    (hbody : ∀ (cdv : Value) (A : Around) (outer : List Env) (s : Shared) (H : Hp) (E : XK), Body P w cv k (cxOf (CX1 P w) P w K mg base N qual (defScope st) f cdv A outer s H E) (fun c _ H' => E (cv c) none H') →
      PSs (cxOf (CX1 P w) P w K mg base N qual (defScope st) f cdv A outer s H E) (defBody st) (tS ⟨cv, N.length, 0⟩ (fun c _ H' => E (cv c) none H') b)) :
    FnOk P w K mg base (CX1 P w) (k + 1) f fd ps (spD cv ps.length (runB N.length b)) := by
  obtain ⟨oc, od, kV, doc, pm, an, cdv, ct, osl, rfl, lk, hcd⟩ := F.ex
  refine fn_of lk hcd S (fun vs H Q E h => ?_) fun A outer s H vs Q E hr hsp => ?_
  · obtain ⟨ds, r, hl, _⟩ := h
    exact hl
  obtain ⟨ds, r, hl, rp, hg, hok, hex⟩ := hsp
  refine ⟨tS ⟨cv, N.length, 0⟩ (fun c _ H' => E (cv c) none H') b, hbody cdv A outer s H E ⟨⟨hr.units, M.mlen, M.mint, M.mbool, M.mstr, M.mtuple, M.mlist, M.misi, M.mrange, M.menum, M.mzip, M.mrev⟩, hr, xlink_cx, rlink_cx, PassesOwn.leaving, rfl, S.nd⟩, ?_⟩
  have g := start_sr (cv := cv) S.pre hl rp
  unfold runB at hg
  cases hb : b (ds.map (fun d => some (.par d)) ++ List.replicate (N.length - ds.length) none) with
  | none => rw [hb] at hg; cases hg
  | some y =>
    rw [hb] at hg
    refine ⟨H, H, _, y, g, hb, ?_⟩
    cases y with
    | ret d => cases hg; exact fun v H' s rp => hok d v H' rfl s rp
    | next ρ' => cases hg; exact fun σ' H' g' => hok .none .non H' rfl g'.s1 rfl
    | exc c ρ' => cases hg; exact fun σ' H' g' => hex c H' rfl g'.s1
    | brk ρ' => cases hg
    | cont ρ' => cases hg
end KT
set_option Elab.async false
set_option linter.all false
set_option maxRecDepth 100000
namespace KT
open PySem PySem.Spec PyProof.Rows L2
/-! ### isinstance of a caught error -/
/-- what the fragment says of an own error class at D -/
structure XCls (K : PySem.W.Frag) (D : Addr) : Prop where
  ga : PySem.W.findIn K (.ref D) "__getattribute__" = some (some (.builtin "BaseException.__getattribute__"))
  gh : PySem.W.findIn K (.ref D) "__getattr__" = some none
  be : PySem.W.mroIn K D (.type "BaseException") = some true
  hd : PySem.W.hasDictIn K D = true
  fc : PySem.W.findIn K (.ref D) "__class__" = some (some (.builtin "object.__class__"))
  sg : PySem.W.specialIn K (.builtin "object.__class__") "__get__" = some (some (.builtin "getset_descriptor.__get__"))
  tk : PySem.W.takesIn K (.builtin "object.__class__") = some true
  mo : PySem.W.mroIn K D (.type "object") = some true
open PySem.W in
theorem exc_check {K : Frag} {D x : Addr} {ox : Obj} {M : Model} {A : Around} {E : Value → Shared → Prop} {s : Shared} {nv : Value} {Q : Unit → Shared → Prop} (Y : XCls K D) (X : K.In s.heap) (I : InstAt s.heap x ox D none) (k : Q () s) :
    wpAny M A (checkBuiltinCall "BaseException.__getattribute__" ⟨[.ref x, nv], []⟩) Q E s := by
  have hk : builtinKind "BaseException.__getattribute__" = some .slot := by decide +kernel
  have hsp : splitId "BaseException.__getattribute__" = some ("BaseException", "__getattribute__") := by decide +kernel
  have L : Looks M s.heap (isInstance (.ref x) (.type "BaseException")) true := I.type.andThen (looks_mroIn X Y.be)
  have ha := F.args_bexc_ga (.ref x) nv
  simp only [checkBuiltinCall, hk, hsp]
  refine wpAny_bind (L.here ?_)
  simp only [Bool.not_true, Bool.false_eq_true, if_false]
  exact wpAny_of_eq ha k
open PySem.W in
theorem exc_class {K : Frag} {D x : Addr} {ox : Obj} {prog : Program} {w : World} {A : Around} {E : Value → Shared → Prop} {s : Shared} {Q : Option Value → Shared → Prop} (Y : XCls K D) (X : K.In s.heap) (I : InstAt s.heap x ox D none) (k : Q (some (.ref D)) { s with toks := s.toks + 1 }) :
    wpAny (model prog w) A (getAttr? (.ref x) "__class__") Q E s := by
  obtain ⟨hh, g, d, t, os⟩ := s
  have L0 := I.type (M := model prog w)
  have L1 := looks_findIn (M := model prog w) X Y.ga
  have L2 := looks_findIn (M := model prog w) X Y.gh
  have hf : findObj K D none "__class__" = some (.bind (.builtin "getset_descriptor.__get__") (.builtin "object.__class__")) := by
    obtain ⟨cd, hc, _⟩ := any_some Y.hd
    unfold findObj
    rw [hc, Option.bind_some, Y.fc, Option.bind_some]
    simp [Y.sg, Y.tk]
  have L3 := looks_find (M := model prog w) X I hf
  unfold getAttr? getAttrBy? getAttrBy
  refine wpAny_bind (wpAny_mkText (wpAny_bind (wpAny_attempt (wpAny_holding (wpAny_bind (L0.at (wpAny_bind (L1.at ?_))))))))
  show wpAny _ _ (if (onTheHeap (Value.ref D) && Value.builtin "BaseException.__getattribute__" == Value.builtin "object.__getattribute__") = true then _ else getAttrByItsOwn _ _ _ _ false false) _ _ _
  have hne : (onTheHeap (Value.ref D) && Value.builtin "BaseException.__getattribute__" == Value.builtin "object.__getattribute__") = false := by
    rw [show (Value.builtin "BaseException.__getattribute__" == Value.builtin "object.__getattribute__") = false by decide +kernel]
    exact Bool.and_false _
  rw [if_neg (by rw [hne]; exact Bool.false_ne_true)]
  unfold getAttrByItsOwn hookBefore
  rw [if_pos (show onTheHeap (Value.ref D) = true from rfl)]
  refine wpAny_bind (L2.at (wpAny_bind (wpAny_attempt (wpAny_holding ?_))))
  unfold callGetattribute
  rw [if_neg (by simp)]
  unfold boundAndCalled
  refine wpAny_bind (wpAny_of_eq (F.excAttr_ValueError.ga.bind (.ref x)) ?_)
  refine wpAny_call (codeAny_call_builtin F.excAttr_ValueError.ga.plain F.entry_bexc_ga (exc_check Y X I ?_))
  have hdone : wpAny (model prog w) A.in1 (call (.builtin "getset_descriptor.__get__") [.builtin "object.__class__", .ref x, .ref D]) (fun v s' => v = .ref D ∧ s' = ⟨hh, g, d, t + 1, os⟩) (fun _ _ => False) ⟨hh, g, d, t + 1, os⟩ :=
    wpAny_call (class_get (ox := ox) (od := none) X I Y.mo ⟨rfl, rfl⟩)
  refine wpAny_bind (wpAny_pure (wpAny_bind ?_))
  refine wpAny_pure (wpAny_bind (L0.at (wpAny_bind (L3.at ?_))))
  show wpAny _ _ (holding [Value.builtin "object.__class__"] (call (.builtin "getset_descriptor.__get__") [.builtin "object.__class__", .ref x, .ref D]) >>= ret) _ _ _
  refine wpAny_bind (wpAny_holding (wpAny_mono hdone (fun v s' hv => wpAny_pure ?_) fun _ _ z => z.elim))
  obtain ⟨rfl, rfl⟩ := hv
  exact handed_on rfl (wpAny_pure k)
open PySem.W in
theorem kitx_exc {K : Frag} {x D : Addr} {ox : Obj} (Y : XCls K D) : KitX K (.ref x) (.ref D) (fun h => InstAt h x ox D none) where
  ty := fun _ _ _ I => I.type
  it := fun _ _ X _ => by
    obtain ⟨cdD, hcD, _⟩ := any_some Y.hd
    unfold clsIn at hcD
    split at hcD
    · rename_i ho
      intro _ _ _ _ k q
      unfold isType loadHead
      exact wpAny_bind (wpAny_loadPart (k _ _ (X _ _ ho)) (wpAny_pure q))
    · cases hcD
  ne := fun h tp dd its n sl X htp => by
    obtain ⟨cdD, hcD, _⟩ := any_some Y.hd
    cases q : (Value.ref D == Value.ref tp) with
    | false => rfl
    | true =>
      have e : D = tp := Value.ref.inj (beq_iff_eq.mp q)
      subst e
      unfold clsIn at hcD
      split at hcD
      · rename_i ho
        cases (X _ _ ho).symm.trans htp
      · cases hcD
  ca := fun X I k => exc_class Y X I k
/-- the error classes are there -/
structure XAll (K : PySem.W.Frag) (cv : Nat → Value) : Prop where
  ex : ∀ c, ∃ D, cv c = .ref D ∧ XCls K D
/-- a class's name in an isinstance: the class's value, and which of the own errors are under it -/
structure IsF (K : PySem.W.Frag) (mg : Str → Option Value) (cv : Nat → Value) (x : Str) (sub : Nat → Bool) : Prop where
  all : XAll K cv
  nm : (∃ C, mg x = some (.ref C) ∧ ∀ c, PySem.W.kitOne K (cv c) (.ref C) = some (sub c)) ∨ (∃ T, mg x = none ∧ bootBuiltins x = some (.type T) ∧ ∀ c, PySem.W.kitOne K (cv c) (.type T) = some (sub c))
section
variable {X : Cx} {XO : XOT} {pos p p2 pe : Pos} {x n : Str} {sub : Nat → Bool}
theorem inst_of {X : Cx} {pins : List (Addr × Obj)} {σ : L2.St} {H : Hp} {s : Shared} {a D : Addr} {c : Nat} {cv : Nat → Value} (I : Inv X pins σ H s) (r : XRep cv H c a) (e : cv c = .ref D) : ∃ ox, PySem.W.InstAt s.heap a ox D none := by
  obtain ⟨φ, h, q⟩ := r
  obtain ⟨hφ, _, _⟩ := (show ObjOk X.prog X.w H s.heap a (.ext φ) from I.hok a _ h)
  obtain ⟨⟨oc, od, oda, osl⟩, ho, hc, hd, vs, hf⟩ := q _ hφ
  dsimp only at hc hd hf
  subst hd hf
  exact ⟨_, ho, hc.trans e, rfl, trivial⟩
theorem call_isx {cv : Nat → Value} (Y : XAll X.K cv) : CallR X (.builtin "isinstance") (fun xs H Q => ∃ a c C u b, xs = [.ref a, C] ∧ RelV C u ∧ XRep cv H c a ∧ PySem.W.kitOne X.K (cv c) u = some b ∧ Q (.bl b) H) := by
  intro pins s σ H xs us Q I r h
  obtain ⟨a, c, C, u, b, rfl, ru, rx, hk, q⟩ := h
  obtain ⟨v1, v2, rfl, r1, r2⟩ := vals2 r
  cases r1
  have hu : v2 = u := by
    cases C with
    | ref _ => exact (show v2 = _ from r2).trans (show u = _ from ru).symm
    | ty _ => exact (show v2 = _ from r2).trans (show u = _ from ru).symm
    | non => exact (show v2 = _ from r2).trans (show u = _ from ru).symm
    | bl _ => exact (show v2 = _ from r2).trans (show u = _ from ru).symm
    | int _ => obtain ⟨_, z⟩ := ru; subst z; unfold PySem.W.kitOne at hk; obtain ⟨D, hD, _⟩ := Y.ex c; rw [hD] at hk; simp [PySem.W.kitCls] at hk
    | str _ => obtain ⟨_, z⟩ := ru; subst z; unfold PySem.W.kitOne at hk; obtain ⟨D, hD, _⟩ := Y.ex c; rw [hD] at hk; simp [PySem.W.kitCls] at hk
    | byt _ => obtain ⟨_, z⟩ := ru; subst z; unfold PySem.W.kitOne at hk; obtain ⟨D, hD, _⟩ := Y.ex c; rw [hD] at hk; simp [PySem.W.kitCls] at hk
    | flt _ => obtain ⟨_, z⟩ := ru; subst z; unfold PySem.W.kitOne at hk; obtain ⟨D, hD, _⟩ := Y.ex c; rw [hD] at hk; simp [PySem.W.kitCls] at hk
  subst hu
  obtain ⟨D, hD, YD⟩ := Y.ex c
  obtain ⟨ox, J⟩ := inst_of I rx hD
  rw [hD] at hk
  exact PySem.W.kia_one (kitx_exc YD) I.kIn J hk (fun z => nomatch z) fun tk => ⟨.bl b, H, I.tok _, rfl, q⟩
theorem pe_cls {C : V} (hgx : Gl X x) (h : (∃ u, X.mg x = some u ∧ RelV C u) ∨ ∃ u, X.mg x = none ∧ bootBuiltins x = some u ∧ RelV C u ∧ x ≠ "__name__") (hdx : (x == ("__debug__" : Str)) = false) : PE X (.Name x p2) (tC C) := by
  rcases h with ⟨u, h1, h2⟩ | ⟨u, h1, h2, h3, h4⟩
  · exact pe_glob hgx h1 h2 hdx
  · exact pe_bltn hgx h1 h2 h3 h4 hdx
theorem x_isx (i : Nat) (C : BC X) (F : IsF X.K X.mg XO.cv x sub) (hN : X.N[i]? = some n := by rfl) (hv : Vis X.env.scope n := by first | exact Or.inl rfl | exact Or.inr (Or.inl rfl) | exact Or.inr (Or.inr rfl)) (hdn : (n == ("__debug__" : Str)) = false := by decide)
    (hcd : (n == ("__classdict__" : Str)) = false := by decide) (hgx : Gl X x := by rfl) (hnx : x ≠ "__name__" := by decide) (hdx : (x == ("__debug__" : Str)) = false := by decide) (hg : Gl X "isinstance" := by rfl)
    (hs1 : starEach [.Name n pe, .Name x p2] X.env = (false, eval (.Name n pe) X.env) :: starEach [.Name x p2] X.env := by exact star_cons rfl) (hpl : (backTo pos (starEach [.Name x p2] X.env)).any (·.1) = false := by exact star_any rfl) :
    PE X (.Call (.Name "isinstance" p) [.Name n pe, .Name x p2] [] pos) (tF XO (eIsX i sub)) := by
  obtain ⟨Cv, u, hcl, ru, hk⟩ : ∃ Cv u, ((∃ u, X.mg x = some u ∧ RelV Cv u) ∨ ∃ u, X.mg x = none ∧ bootBuiltins x = some u ∧ RelV Cv u ∧ x ≠ "__name__") ∧ RelV Cv u ∧ ∀ c, PySem.W.kitOne X.K (XO.cv c) u = some (sub c) := by
    rcases F.nm with ⟨D, h1, h2⟩ | ⟨T, h1, h2, h3⟩
    · exact ⟨.ref D, .ref D, .inl ⟨_, h1, rfl⟩, rfl, h2⟩
    · exact ⟨.ty T, .type T, .inr ⟨_, h1, h2, rfl, hnx⟩, rfl, h3⟩
  refine PE.imp (pe_callB (call_isx F.all) hg C.misi PyProof.Rows.boot_isinstance (pa_cons (pe_var (i := i) hN hv hdn hcd) (pa_cons (pe_cls hgx hcl hdx) pa_nil rfl) hs1) (by decide) (by decide) hs1 hpl) fun σ H Q ⟨H₀, Hs, ρ, rr, g, e, kk⟩ => ?_
  unfold eIsX at e
  split at e
  · rename_i c hρ
    obtain ⟨a, h1, h2⟩ := g.vr i _ hρ
    exact ⟨.ref a, h1, a, c, Cv, u, _, rfl, ru, h2, hk c, kk.give e (Same.refl _) rfl⟩
  · cases e
end
end KT
set_option Elab.async false
set_option linter.all false
set_option maxRecDepth 100000
namespace KT
open PySem PySem.Spec PyProof.Rows L2
/-! ### try: .. except C as e: .. -/
/-- the class that a handler names, and which of the own errors it takes -/
structure HanF (K : PySem.W.Frag) (mg : Str → Option Value) (cv : Nat → Value) (x : Str) (sub : Nat → Bool) : Prop where
  nm : ∃ C, mg x = some C ∧ ∀ c, PySem.W.exmOne K (cv c) C = some (sub c)
/-- what a try's body is given -/
structure BodyT (cv : Nat → Value) (k : Nat) (X : Cx) (XO : XOF) : Prop where
  C : BC X
  hr : Room k X.A
  L : XLink (CX1 X.prog X.w) X ⟨cv, XO⟩
  pw : PassesOwn (model X.prog X.w) X.A X.env X.xe
  hc : X.calm = true
  nd : X.N.Nodup
/-- what a handler is given -/
structure BodyH (X : Cx) : Prop where
  C : BC X
  nd : X.N.Nodup
def Cx.tr (X : Cx) (xe : Value → Shared → Prop) (pn : List (Addr × Obj)) : Cx := { X with xe := xe, pn := pn }
def Cx.hn (X : Cx) (e : Value) : Cx := { X with A := X.A.mark (some e), calm := false, xe := fun _ _ => False }
section
variable {X : Cx} {pins : List (Addr × Obj)} {σ : L2.St} {H H' : Hp} {s : Shared} {xe : Value → Shared → Prop}
theorem ok_tr {pn : List (Addr × Obj)} (o : X.Ok) : (Cx.tr X xe pn).Ok := ⟨o.mod, o.kind, o.glob, o.blt, o.above, o.inj, o.has, o.cab, o.hd, o.frames, o.stk, o.exf, o.bs, o.bsz, o.noex, o.exfs, o.funs, o.frf⟩
theorem ok_rt {pn : List (Addr × Obj)} (o : (Cx.tr X xe pn).Ok) : X.Ok := ⟨o.mod, o.kind, o.glob, o.blt, o.above, o.inj, o.has, o.cab, o.hd, o.frames, o.stk, o.exf, o.bs, o.bsz, o.noex, o.exfs, o.funs, o.frf⟩
theorem ok_hn {e : Value} (o : X.Ok) : (Cx.hn X e).Ok := ⟨o.mod, o.kind, o.glob, o.blt, o.above, o.inj, o.has, o.cab, (fun z => nomatch z), o.frames, o.stk, o.exf, o.bs, o.bsz, o.noex, o.exfs, o.funs, o.frf⟩
theorem ok_nh {e : Value} (o : (Cx.hn X e).Ok) (h : X.calm = true → X.A.handled = none) : X.Ok := ⟨o.mod, o.kind, o.glob, o.blt, o.above, o.inj, o.has, o.cab, h, o.frames, o.stk, o.exf, o.bs, o.bsz, o.noex, o.exfs, o.funs, o.frf⟩
theorem inv_tr (I : Inv X pins σ H s) : Inv (Cx.tr X xe (X.pn ++ pins)) [] σ H s := ⟨ok_tr I.ok, I.os, I.bare, I.base, I.loc, I.cell, I.free, I.freeC, fun p hp => I.pin p (by simpa [Cx.tr] using hp), I.hok, I.len⟩
theorem inv_rt {ps : List (Addr × Obj)} (I : Inv (Cx.tr X xe (X.pn ++ pins)) ps σ H s) : Inv X pins σ H s := ⟨ok_rt I.ok, I.os, I.bare, I.base, I.loc, I.cell, I.free, I.freeC, fun p hp => I.pin p (List.mem_append_left _ (by simpa [Cx.tr] using hp)), I.hok, I.len⟩
theorem inv_hn {e : Value} (I : Inv X pins σ H s) : Inv (Cx.hn X e) pins σ H s := ⟨ok_hn I.ok, I.os, I.bare, I.base, I.loc, I.cell, I.free, I.freeC, I.pin, I.hok, I.len⟩
theorem inv_nh {e : Value} (I : Inv (Cx.hn X e) pins σ H s) (h : X.calm = true → X.A.handled = none) : Inv X pins σ H s := ⟨ok_nh I.ok h, I.os, I.bare, I.base, I.loc, I.cell, I.free, I.freeC, I.pin, I.hok, I.len⟩
/-- a handler's name goes -/
theorem unname_ok {M : Model} {A : Around} {E : Value → Shared → Prop} {i : Nat} {n : Str} {pos : Pos} {Q : Unit → Shared → Prop} (I : Inv X pins σ H s) (hN : X.N.Nodup) (hi : X.N[i]? = some n) (hl : X.env.kindOf n = some .local)
    (k : ∀ s', Inv X pins (σ.set i none) H s' → Q () s') : wpAny M A (do bindName X.env n .none; unbindBehindTheSuite X.env n pos) Q E s := by
  obtain ⟨m, hn, hlk⟩ := id I.loc
  refine wpAny_nameGoes_keeps hl hn (by rw [I.ok.kind]; rfl) fun h' v hn' hs => k _ ?_
  have hiσ : i < σ.length := by rw [I.len]; exact (List.getElem?_eq_some_iff.mp hi).1
  obtain ⟨oL, _, _, hoL, _⟩ := id hn
  have below : ∀ b o, X.s₀.heap.get? b = some o → b ≠ X.env.locals := fun b o e => Nat.ne_of_lt (Nat.lt_of_lt_of_le (Heap.lt_size e) I.ok.above)
  refine ⟨I.ok, I.os, I.bare, ⟨fun b o e n hb hx => (hs.2 b (below b o e)).trans (I.base.keep b o e n hb hx), fun b o e n hb hx => ?_, I.base.free, fun b o e hx => ?_, I.base.tups, I.base.frzs, I.base.tbls⟩, ⟨_, hn', fun j y v' e1 e2 e3 => ?_⟩, fun y c e => ?_, I.free, I.freeC, fun p hp => ?_, fun b ob e => ?_, by simpa using I.len⟩
  · obtain ⟨sl, z⟩ := I.base.slot b o e n hb hx
    exact ⟨sl, (hs.2 b (below b o e)).trans z⟩
  · obtain ⟨o', z⟩ := I.base.there b o e hx
    exact ⟨o', (hs.2 b (below b o e)).trans z⟩
  · by_cases hj : i = j
    · subst hj
      rw [List.getElem?_set_self hiσ] at e2
      cases e2
    · rw [List.getElem?_set_ne hj] at e2
      obtain ⟨u, r, q⟩ := hlk j y v' e1 e2 e3
      refine ⟨u, r, ?_⟩
      rcases q with ⟨k1, k2⟩ | ⟨k1, c, k2, k3⟩
      · refine .inl ⟨k1, ?_⟩
        have : y ≠ n := fun z => hj (nodup_ix hN (z ▸ hi) e1)
        show (if y = n then v else m y) = some u
        rw [if_neg this]
        exact k2
      · exact .inr ⟨k1, c, k2, k3.sameBut hs (I.cne y c k2)⟩
  · obtain ⟨w', z⟩ := I.cell y c e
    exact ⟨w', z.sameBut hs (I.cne y c e)⟩
  · obtain ⟨e, n, ne, nf, d⟩ := I.pin p hp
    exact ⟨(hs.2 p.1 ne).trans e, n, ne, nf, d⟩
  · refine (I.hok b ob e).stay (fun c w' hc q => (hs.2 c fun z => ?_).trans q) (fun _ q => q) fun _ _ q => q
    subst z
    rcases hc with z | z
    · rw [← z, I.free] at e; cases e
    · rw [I.free] at z; cases z
/-- an error's object, known from now on -/
def exO (ea : Addr) (oe : Obj) : HO := .ext fun h => h.get? ea = some oe
theorem hok_ext {P : Program} {w : World} {h : Heap} {ea : Addr} {oe : Obj} (hok : HOk P w H h) (hn : H ea = none) (he : h.get? ea = some oe) : HOk P w (upd H ea (exO ea oe)) h := fun b u e => by
  by_cases z : b = ea
  · subst z
    rw [upd_same] at e
    cases e
    exact ⟨he, ⟨oe, he⟩, fun h1 h2 q k => k _ q⟩
  · rw [upd_ne z] at e
    exact (hok b u e).stay (fun _ _ _ q => q) (fun c q => by rw [upd_ne (ne_of_none q hn)]; exact q) fun c xs q => by rw [upd_ne (ne_of_none q hn)]; exact q
theorem un_ext {fs : List Addr} {h h' : Heap} {ea : Addr} {o : HO} (U : Un fs [] H H' h h') (h0 : h.get? ea = none) (hn : H' ea = none) : Un fs [] H (upd H' ea o) h h' where
  keep := U.keep
  slot := U.slot
  free := fun b ob q n hx => by
    rw [upd_ne fun z => by rw [z, h0] at q; cases q]
    exact U.free b ob q n hx
  there := U.there
  tups := fun b xs q => by rw [upd_ne (ne_of_none (U.tups b xs q) hn)]; exact U.tups b xs q
  frzs := fun b ob u q => by rw [upd_ne (ne_of_none (U.frzs b ob u q) hn)]; exact U.frzs b ob u q
  tbls := fun b ps q => by
    obtain ⟨more, z⟩ := U.tbls b ps q
    exact ⟨more, by rw [upd_ne (ne_of_none z hn)]; exact z⟩
end
section
variable {X : Cx} {XO : XOF} {cv : Cfg} {body suite : List Stmt} {b0 : Stmt} {a b : FS} {pos hpos np : Pos} {x n : Str} {sub : Nat → Bool} {k : Nat}
theorem bc_hn {e : Value} (C : BC X) : BC (Cx.hn X e) := ⟨C.hu, C.mlen, C.mint, C.mbool, C.mstr, C.mtuple, C.mlist, C.misi, C.mrange, C.menum, C.mzip, C.mrev⟩
theorem bc_tr {xe : Value → Shared → Prop} {pn : List (Addr × Obj)} (C : BC X) : BC (Cx.tr X xe pn) := ⟨C.hu, C.mlen, C.mint, C.mbool, C.mstr, C.mtuple, C.mlist, C.misi, C.mrange, C.menum, C.mzip, C.mrev⟩
/-- the handler's run: the error lies still, and is tracked -/
theorem handle_run {i : Nat} {pins : List (Addr × Obj)} {σ : L2.St} {H₀ F H : Hp} {s : Shared} {D : Ends} {ρ : Rho} {r : RS} {c : Nat} {ea T : Addr} {oe oT : Obj} {vs ts : Array Value} (Hn : HanF X.K X.mg cv.cv x sub) (C : BC X) (nd : X.N.Nodup) (hcalm : X.calm = true → X.A.handled = none)
    (I : Inv X pins σ H s) (g : SR cv H₀ F ρ σ H) (hx : H ea = some (exO ea oe)) (he : s.heap.get? ea = some oe) (hcl : oe.cls = cv.cv c) (hdd : oe.dict = none) (hd : oe.data = .fields vs) (h1 : vs[1]? = some (.ref T)) (hT : s.heap.get? T = some oT) (hdT : oT.data = .fields ts) (h3 : ts[3]? = some .none)
    (hsub : sub c = true) (hb : (match b (ρ.set i (some (.ex c))) with
      | some (.ret d) => some (.ret d)
      | some (.next ρ2) => some (.next (ρ2.set i none))
      | _ => none) = some r) (kk : KS cv XO H₀ F D r)
    (hh : ∀ e, BodyH (Cx.hn X e) → PSs (Cx.hn X e) (b0 :: suite) (tS cv (fun _ _ _ => False) b))
    (hi : X.N[i]? = some n) (hl : X.env.kindOf n = some .local) (hin : Nat.blt i cv.n = true) (hg : Gl X x) (hdb : (x == ("__debug__" : Str)) = false) (hfn : X.fn n = true ∨ X.env.scope.names.lookup n = some .local) :
    wpAny (model X.prog X.w) X.A (handleBy (.ref ea) X.env [.ExceptHandler (some (.Name x np)) (some n) (b0 :: suite) hpos]) (SP X pins D) X.xe s := by
  obtain ⟨Cv, hm, hex⟩ := Hn.nm
  have I1 : Inv (Cx.hn X (.ref ea)) pins σ H s := inv_hn I
  refine wpAny_handleBy_cons (codeAny_handlers_test (ld_glob (X := Cx.hn X (.ref ea)) I1 hg hm ?_ hdb)) (by intro q; cases q)
  have LT : PySem.W.Looks (model X.prog X.w) s.heap (typeOf (.ref ea)) (cv.cv c) := by
    rw [← hcl]
    exact (PySem.W.Looks.ld he).andThen .now
  refine (PySem.W.exm_one I.kIn LT (hex c)).here ?_
  rw [hsub]
  refine codeAny_handlers_suite_as ?_
  have hsz : 3 < ts.size := (Array.getElem?_eq_some_iff.mp h3).1
  refine wpAny_setFlight_none he hd h1 hT hdT hsz ?_
  have same : ∀ b o, s.heap.get? b = some o → (s.heap.update T (Obj.mapFields (·.setIfInBounds 3 Value.none))).get? b = some o := fun b o q => by
    by_cases z : b = T
    · subst z
      rw [hT] at q
      cases q
      exact same_flight hT hdT h3
    · rw [Heap.get?_update_other _ _ (Ne.symm z)]; exact q
  have I2 : Inv (Cx.hn X (.ref ea)) pins σ H { s with heap := s.heap.update T (Obj.mapFields (·.setIfInBounds 3 Value.none)) } := I1.kept (t' := s.toks) same
  refine store_ok (X := Cx.hn X (.ref ea)) I2 nd hi (.inl hl) (v := .ref ea) rfl (fun s3 I3 => ?_) hfn
  have g3 : SR cv H₀ F (ρ.set i (some (.ex c))) (σ.set i (some (.ref ea))) H := g.put hin fun O o => ⟨ea, rfl, _, hx, fun h q => ⟨oe, q, hcl, hdd, vs, hd⟩⟩
  cases hbr : b (ρ.set i (some (.ex c))) with
  | none => rw [hbr] at hb; cases hb
  | some y =>
    rw [hbr] at hb
    let D' : Ends := { nx := fun σ' H' => ∃ ρ2, y = .next ρ2 ∧ SR cv H₀ F ρ2 σ' H', rt := fun v H' => D.rt v H' }
    have run := hh (.ref ea) ⟨bc_hn C, nd⟩ pins s3 _ H D' I3 ⟨H₀, F, _, y, g3, hbr, ?_⟩
    · refine wpAny_mono run (fun f s4 h4 => ?_) fun _ _ z => z.elim
      cases f with
      | next =>
        obtain ⟨σ', H', J, ρ2, e2, g4⟩ := h4
        subst e2
        cases hb
        refine unname_ok (inv_nh J hcalm) nd hi hl fun s5 J5 => ⟨_, H', J5, kk _ _ ?_⟩
        obtain ⟨O, o⟩ := g4.ex
        refine ⟨g4.s0, g4.s1, by simp [g4.len], by simp [g4.ln], O, o.fr, o.ls, fun j t e => ?_⟩
        have hρ : i < ρ2.length := by rw [g4.len]; exact Nat.ble_eq.mp hin
        by_cases hij : i = j
        · subst hij
          rw [set_get _ _ _ _ hρ, if_pos rfl] at e
          cases e
        · rw [set_get _ _ _ _ hρ, if_neg hij] at e
          rw [List.getElem?_set_ne hij]
          exact o.sl j t e
      | ret u =>
        obtain ⟨v, σ', H', J, rv, q⟩ := h4
        exact unname_ok (inv_nh J hcalm) nd hi hl fun s5 J5 => ⟨v, _, H', J5, rv, q⟩
      | brk => obtain ⟨_, _, _, q⟩ := h4; exact q.elim
      | cont => obtain ⟨_, _, _, q⟩ := h4; exact q.elim
    · cases y with
      | next ρ2 => exact fun σ' H' g' => ⟨ρ2, rfl, g'⟩
      | ret d => cases hb; exact kk
      | exc c' ρ' => cases hb
      | brk ρ' => cases hb
      | cont ρ' => cases hb
theorem s_try (Hn : HanF X.K X.mg cv.cv x sub) (i : Nat) (C : BC X) (hr : Room k X.A) (hc : X.calm = true) (nd : X.N.Nodup)
    (hb : ∀ xe pn XO', BodyT cv.cv k (Cx.tr X xe pn) XO' → PSs (Cx.tr X xe pn) body (tS cv XO' a))
    (hh : ∀ e, BodyH (Cx.hn X e) → PSs (Cx.hn X e) (b0 :: suite) (tS cv (fun _ _ _ => False) b))
    (hst : X.stack = X.env :: X.outer := by rfl) (hi : X.N[i]? = some n := by rfl) (hl : X.env.kindOf n = some .local := by rfl) (hin : Nat.blt i cv.n = true := by rfl) (hg : Gl X x := by rfl) (hdb : (x == ("__debug__" : Str)) = false := by decide)
    (hfn : X.fn n = true ∨ X.env.scope.names.lookup n = some .local := by first | exact .inl rfl | exact .inr rfl) :
    PS X (.Try body [.ExceptHandler (some (.Name x np)) (some n) (b0 :: suite) hpos] [] [] pos) (tS cv XO (sTry a sub i b)) := by
  intro pins s σ H D I ⟨H₀, F, ρ, r, g, e, kk⟩
  refine wpAny_Try_except ?_
  let E' : Value → Shared → Prop := fun e s1 => wpAny (model X.prog X.w) X.A (noteFrame e X.env) (fun _ s2 => wpAny (model X.prog X.w) X.A (setFlight e none) (fun _ s3 => wpAny (model X.prog X.w) X.A (handleBy e X.env [.ExceptHandler (some (.Name x np)) (some n) (b0 :: suite) hpos]) (SP X pins D) X.xe s3) X.xe s2) X.xe s1
  let XO' : XOF := fun c σ' H' => ∃ ρ', a ρ = some (.exc c ρ') ∧ SR cv H₀ F ρ' σ' H'
  have hL : XLink (CX1 X.prog X.w) (Cx.tr X E' (X.pn ++ pins)) ⟨cv.cv, XO'⟩ := by
    intro ps σ1 H1 s1 ev s2 J hcx
    obtain ⟨ea, cls, H2, rfl, os, bare, un, hok, xt, c, hcls, ρ', ha, g2⟩ := hcx
    have hcls : cls = cv.cv c := hcls
    subst hcls
    have hf : X.env.frame = some X.env.locals := own_frame (inv_rt J) hst
    have hstk : (Cx.tr X E' (X.pn ++ pins)).stack = X.env :: X.outer := hst
    rw [hstk] at un
    have ff := J.stack
    rw [hstk] at ff
    have fr := J.stkFree
    rw [hstk] at fr
    have fm : X.A.frames = some (X.env :: X.outer) := by rw [← hst]; exact I.ok.frames
    refine fly1 (H₀ := H1) (s₀ := s1) fm hf ff fr Un.refl un hok xt fun h3 y1 y2 y3 => ?_
    obtain ⟨z1, z2, oe, vs, T, oT, ts, he, hc1, hdd, hd, h1, t1, t2, tne, hT, hdT, ht3⟩ := y3
    have U3 : Un (frs (Cx.tr X E' (X.pn ++ pins)).stack) [] H1 (upd H2 ea (exO ea oe)) s1.heap h3 := by rw [hstk]; exact un_ext y1 z1 z2
    have J3 : Inv (Cx.tr X E' (X.pn ++ pins)) ps σ1 (upd H2 ea (exO ea oe)) { s2 with heap := h3 } := J.call' os U3 (hok_ext y2 z2 he) bare fun b z => (nomatch z)
    unfold sTry at e
    rw [ha] at e
    dsimp only at e
    split at e
    · rename_i hsub
      exact handle_run Hn C nd I.ok.hd (inv_rt J3) (g2.same (same_new z2 _)) upd_same he hc1 hdd hd h1 hT hdT ht3 hsub e kk hh hi hl hin hg hdb hfn
    · cases e
  have run := hb E' (X.pn ++ pins) XO' ⟨bc_tr C, hr, hL, PassesOwn.looking, hc, nd⟩ [] s σ H D (inv_tr I)
  have hw : tS cv XO' a D σ H := by
    unfold sTry at e
    cases ha : a ρ with
    | none => rw [ha] at e; cases e
    | some y =>
      rw [ha] at e
      refine ⟨H₀, F, ρ, y, g, ha, ?_⟩
      cases y with
      | exc c ρ' => exact fun σ' H' g' => ⟨ρ', ha, g'⟩
      | next ρ' => cases e; exact kk
      | ret d => cases e; exact kk
      | brk ρ' => cases e; exact kk
      | cont ρ' => cases e; exact kk
  refine wpAny_mono (run hw) (fun f s1 h1 => ?_) fun _ _ z => z
  cases f with
  | next =>
    obtain ⟨σ', H', J, q⟩ := h1
    show wpAny _ _ (execs [] X.env) _ _ _
    unfold execs
    exact wpAny_pure ⟨σ', H', inv_rt J, q⟩
  | ret u => obtain ⟨v, σ', H', J, rv, q⟩ := h1; exact ⟨v, σ', H', inv_rt J, rv, q⟩
  | brk => obtain ⟨σ', H', J, q⟩ := h1; exact ⟨σ', H', inv_rt J, q⟩
  | cont => obtain ⟨σ', H', J, q⟩ := h1; exact ⟨σ', H', inv_rt J, q⟩
end
end KT
set_option Elab.async false
set_option linter.all false
set_option maxRecDepth 100000
namespace KT
open PySem PySem.Spec PyProof.Rows L2
/-- what a comprehension's element is given -/
structure BodyC (cv : Nat → Value) (k : Nat) (X : Cx) : Prop where
  C : BC X
  hr : Room k X.A
  L : XLink (CX1 X.prog X.w) X ⟨cv, fun _ _ _ => False⟩
section
variable {X : Cx} {XO : XOT} {y : Str} {yp pos : Pos} {iter elt : Expr} {scope : Scope} {fi : FI} {f : FE} {ids : List Nat} {fr : List Str} {k : Nat}
end
end KT
set_option Elab.async false
set_option linter.all false
set_option maxRecDepth 100000
namespace KT
open PySem PySem.Spec PyProof.Rows L2
section
variable {X : Cx} {XO : XOT} {y : Str} {yp pos : Pos} {iter elt : Expr} {scope : Scope} {fi : FI} {f : FE} {ids : List Nat} {fr : List Str} {k : Nat}
end
end KT
set_option Elab.async false
set_option linter.all false
set_option maxRecDepth 100000
namespace KT
open PySem PySem.Spec PyProof.Rows L2
section
variable {X : Cx} {XO : XOT} {cv : Cfg} {e : Expr} {f fa fb fc : FE} {st : Stmt} {rest sa sb body : List Stmt} {a b : FS} {pos p tpos : Pos} {tg iter : Expr} {fi : FI} {tf : FT} {elts : List Expr} {k1 : Nat}
end
end KT
set_option Elab.async false
set_option linter.all false
set_option maxRecDepth 100000
namespace KT
open PySem PySem.Spec PyProof.Rows L2
section
variable {X : Cx} {XO : XOF} {cv : Cfg} {e : Expr} {f fa fb fc : FE} {st : Stmt} {rest sa sb body : List Stmt} {a b : FS} {pos p tpos : Pos} {tg iter : Expr} {fi : FI} {tf : FT} {elts : List Expr} {k1 : Nat}
theorem SO.drop {H₀ F H : Hp} {ρ : Rho} {σ : L2.St} {O : Own} {i : Nat} {xs : List PyData} (g : SR cv H₀ F ρ σ H) (o : SO cv H₀ F ρ σ H O) (hρ : ρ[i]? = some (some (.own xs))) :
    ∃ p vs O', SR cv H₀ F (ρ.set i (some (.loc (.list xs)))) σ H ∧ SO cv H₀ F (ρ.set i (some (.loc (.list xs)))) σ H O' ∧ σ[i]? = some (some (.ref p)) ∧ O' p = none ∧ H p = some (.lst vs) ∧ Reps (fun _ _ => False) H xs vs ∧ ∀ a j, O' a = some j → O a = some j := by
  obtain ⟨p, vs, hσ, hO, hp', rs⟩ := o.sl i _ hρ
  have hρl : i < ρ.length := (List.getElem?_eq_some_iff.mp hρ).1
  have o2 : SO cv H₀ F (ρ.set i (some (.loc (.list xs)))) σ H (fun a => if a = p then none else O a) := by
    refine ⟨fun a j q => ?_, fun a j q => ?_, fun j t q => ?_⟩
    · by_cases z : a = p
      · rw [if_pos z] at q; cases q
      · rw [if_neg z] at q; exact o.fr a j q
    · by_cases z : a = p
      · rw [if_pos z] at q; cases q
      · rw [if_neg z] at q; exact o.ls a j q
    · by_cases hij : i = j
      · subst hij
        rw [set_get _ _ _ _ hρl, if_pos rfl] at q
        cases q
        exact ⟨.ref p, hσ, p, vs, rfl, .inl ⟨⟨rfl, if_pos rfl, g.s0.free (o.fr p i hO)⟩, hp'⟩, rs.imp fun _ _ z => z.elim⟩
      · rw [set_get _ _ _ _ hρl, if_neg hij] at q
        have h := o.sl j t q
        have hn : ∀ a, O a = none → (if a = p then none else O a) = none := fun a q => by
          by_cases z : a = p
          · rw [if_pos z]
          · rw [if_neg z]; exact q
        cases t with
        | par d => obtain ⟨w, e1, rr⟩ := h; exact ⟨w, e1, rr.imp fun _ a z => hn a z⟩
        | loc d => obtain ⟨w, e1, rr⟩ := h; exact ⟨w, e1, rr.imp fun _ a z => ⟨z.1, hn a z.2.1, z.2.2⟩⟩
        | own ds =>
          obtain ⟨q1, ws, e1, hq, hqp, rs'⟩ := h
          have hne : q1 ≠ p := fun z => by rw [z, hO] at hq; cases hq; exact hij rfl
          exact ⟨q1, ws, e1, (if_neg hne).trans hq, hqp, rs'⟩
        | own2 ds =>
          obtain ⟨q1, ws, e1, hq, hqp, rs'⟩ := h
          have hne : q1 ≠ p := fun z => by rw [z, hO] at hq; cases hq; exact hij rfl
          exact ⟨q1, ws, e1, (if_neg hne).trans hq, hqp, rs'.imp fun _ a z => ⟨z.1, hn a z.2.1, z.2.2⟩⟩
        | lent ds =>
          obtain ⟨ws, e1, hq, hqp, rs'⟩ := h
          have hne : cv.lend ≠ p := fun z => by rw [z, hO] at hq; cases hq; exact hij rfl
          exact ⟨ws, e1, (if_neg hne).trans hq, hqp, rs'⟩
        | dct ks =>
          obtain ⟨q1, e1, hq, hd⟩ := h
          have hne : q1 ≠ p := fun z => by rw [z, hO] at hq; cases hq; exact hij rfl
          exact ⟨q1, e1, (if_neg hne).trans hq, hd⟩
        | ex c => exact h
  refine ⟨p, vs, _, ⟨g.s0, g.s1, by simp [g.len], g.ln, _, o2⟩, o2, hσ, if_pos rfl, hp', rs, fun a j q => ?_⟩
  by_cases z : a = p
  · rw [if_pos z] at q; cases q
  · rw [if_neg z] at q; exact q
end
/-! ### list(range(n)) -/
section
variable {X : Cx} {XO : XOT} {e : Expr} {fa : FE} {pos p p2 p3 : Pos}
end
end KT
set_option Elab.async false
set_option linter.all false
set_option maxRecDepth 100000
namespace KT
open PySem PySem.Spec PyProof.Rows L2
/-! ### {"a": c, ..}[x] and {"a": c, ..}.get(x, y): a display of texts to constants, read at once -/
def cV : PyData → V
  | .int i => .int i
  | .str x => .str x
  | _ => .non
def cOk : PyData → Bool
  | .int _ => true
  | .str _ => true
  | _ => false
def trsOf (kvs : List (Str × PyData)) : List (TE × TE) := kvs.map fun p => (tC (.str p.1), tC (cV p.2))
def kvOf (kvs : List (Str × PyData)) : List (Key × V) := kvs.map fun p => (.inr p.1, cV p.2)
theorem pairs_const (σ : L2.St) (H : Hp) (Q : List (V × V) → Hp → Prop) : ∀ (kvs : List (Str × PyData)) (pre : List (V × V)), Q (pre ++ (kvOf kvs).map fun kv => (kV kv.1, kv.2)) H → tPairs (trsOf kvs) σ H fun ps H2 => Q (pre ++ ps) H2
  | [], pre, h => h
  | p :: r, pre, h => by
    have := pairs_const σ H Q r (pre ++ [(.str p.1, cV p.2)]) (by rw [List.append_assoc]; exact h)
    show tPairs (trsOf r) σ H fun ps H3 => Q (pre ++ ((.str p.1, cV p.2) :: ps)) H3
    simpa using this
theorem merge_app : ∀ (more acc : List (Key × V)), ((acc ++ more).map (·.1)).Nodup → mergeK acc more = acc ++ more
  | [], acc, _ => by simp [mergeK]
  | p :: r, acc, h => by
    have hno : (acc.any fun kv => decide (kv.1 = p.1)) = false := by
      rw [List.any_eq_false]
      intro kv hkv
      simp only [decide_eq_true_eq]
      intro e
      rw [List.map_append, List.nodup_append] at h
      exact h.2.2 kv.1 (List.mem_map_of_mem hkv) p.1 (by simp) e
    have e : putK acc p.1 p.2 = acc ++ [p] := by simp [putK, hno]
    show mergeK (putK acc p.1 p.2) r = _
    rw [e, merge_app r (acc ++ [p]) (by simpa using h)]
    simp
theorem val_lookup (s : Str) : ∀ kvs : List (Str × PyData), valV (kvOf kvs) (.inr s) = (kvs.lookup s).map cV
  | [] => rfl
  | p :: r => by
    by_cases e : p.1 = s
    · rw [List.lookup_cons, beq_iff_eq.mpr e.symm]
      exact valV_pos (by rw [← e])
    · have : (s == p.1) = false := by simpa using fun z => e z.symm
      rw [List.lookup_cons, this]
      refine (valV_neg ?_).trans (val_lookup s r)
      intro z
      exact e (Sum.inr.inj z)
theorem val_int (i : Int) : ∀ kvs : List (Str × PyData), valV (kvOf kvs) (.inl i) = none
  | [] => rfl
  | p :: r => (valV_neg (by intro z; cases z)).trans (val_int i r)
theorem look_ok : ∀ {kvs : List (Str × PyData)} {s : Str} {d : PyData}, kvs.all (fun p => cOk p.2) = true → kvs.lookup s = some d → cOk d = true
  | [], _, _, _, e => by cases e
  | p :: r, s, d, h, e => by
    simp only [List.all_cons, Bool.and_eq_true] at h
    rw [List.lookup_cons] at e
    split at e
    · cases e; exact h.1
    · exact look_ok h.2 e
theorem rep_c {P : PP} {H : Hp} : ∀ {d : PyData}, cOk d = true → Rep P H d (cV d)
  | .int _, _ => rfl
  | .str _, _ => rfl
theorem nd_kv {kvs : List (Str × PyData)} (h : (kvs.map (·.1)).Nodup) : ((kvOf kvs).map (·.1)).Nodup := by
  unfold kvOf
  rw [List.map_map]
  have : (Prod.fst ∘ fun p : Str × PyData => ((Sum.inr p.1 : Key), cV p.2)) = (Sum.inr ∘ Prod.fst) := rfl
  rw [this, ← List.map_map]
  exact List.Pairwise.map _ (fun a b hab z => hab (Sum.inr.inj z)) h
section
variable {X : Cx} {XO : XOT} {pos pos' p1 p2 apos cpos : Pos} {ks : List (Option Expr)} {vs : List Expr} {kvs : List (Str × PyData)} {a b i e : Expr} {f fx : FE} {j1 j2 : Nat}
theorem p_nil : PPs X pos [] [] (trsOf []) := pps_nil
theorem p_str {k v : Str} {j1 j2} (r : PPs X pos ks vs (trsOf kvs)) : PPs X pos (some (.Constant (.str k) j1 p1) :: ks) (.Constant (.str v) j2 p2 :: vs) (trsOf ((k, .str v) :: kvs)) := pps_cons pe_str pe_str r
/-- what is there once the display is made -/
theorem disp_made {σ : L2.St} {H : Hp} {Q : VK} (hn : (kvs.map (·.1)).Nodup) (hl : Nat.ble kvs.length 15 = true) (q : ∀ p H1, Same H H1 → H1 p = some (.dK (kvOf kvs)) → Q (.ref p) H1) : tDisp (trsOf kvs) σ H Q := fun p hp => by
  have := pairs_const σ (upd H p (.dK [])) (fun ps H2 => H2 p = some (.dK []) ∧ ∃ kvs : List (Key × V), ps = kvs.map (fun kv => (kV kv.1, kv.2)) ∧ kvs.length ≤ 15 ∧ Q (.ref p) (upd H2 p (.dK (mergeK [] kvs)))) kvs []
  simp only [List.nil_append] at this
  refine this ⟨upd_same, kvOf kvs, rfl, by unfold kvOf; rw [List.length_map]; exact Nat.le_of_ble_eq_true hl, ?_⟩
  rw [merge_app _ [] (by simpa using nd_kv hn), List.nil_append, upd_upd]
  exact q p _ (same_new hp _) upd_same
theorem x_dix (C : BC X) (hp : PPs X pos' ks vs (trsOf kvs)) (hi : PE X i (tF XO f)) (hall : ks.all (·.isSome) = true := by rfl) (hl : ks.length = vs.length := by rfl) (h0 : ks ≠ [] := by exact List.cons_ne_nil _ _) (h15 : ks.length ≤ 15 := by exact Nat.le_of_ble_eq_true rfl)
    (hn : (kvs.map (·.1)).Nodup := by decide +kernel) (hl' : Nat.ble kvs.length 15 = true := by rfl) (hc : kvs.all (fun p => cOk p.2) = true := by rfl) (hs : NoSl i := by exact fun _ _ => rfl) : PE X (.Subscript (.Dict ks vs pos') i pos) (tF XO (eDix kvs f)) :=
  PE.imp (pe_dget (by have := C.hu; omega) (pe_disp hp hall hl h0 h15) hi hs) fun σ H Q ⟨H₀, Hs, ρ, r, g, e, kk⟩ => by
    refine disp_made hn hl' fun p H1 s1 e1 => ?_
    refine tF_bind (g.same s1) e (kk.same s1) fun l x v H2 s2 g2 r2 e2 k2 => ?_
    split at e2
    · rename_i z
      cases hd : kvs.lookup z with
      | none => rw [hd] at e2; cases e2
      | some d =>
        rw [hd] at e2
        refine ⟨p, cV d, rfl, .inl ⟨kvOf kvs, .inr z, .inl (s2 _ _ e1), r2, by rw [val_lookup, hd]; rfl⟩, k2.give e2 (Same.refl _) (rep_c (look_ok hc hd))⟩
    · cases e2
theorem x_dget (C : BC X) (hp : PPs X pos' ks vs (trsOf kvs)) (hi : PE X i (tF XO f)) (hx : PE X e (tF XO fx)) (hall : ks.all (·.isSome) = true := by rfl) (hl : ks.length = vs.length := by rfl) (h0 : ks ≠ [] := by exact List.cons_ne_nil _ _) (h15 : ks.length ≤ 15 := by exact Nat.le_of_ble_eq_true rfl)
    (hn : (kvs.map (·.1)).Nodup := by decide +kernel) (hl' : Nat.ble kvs.length 15 = true := by rfl) (hc : kvs.all (fun p => cOk p.2) = true := by rfl) (m : M2 X (.Dict ks vs pos') "get" apos i e cpos := by exact ⟨rfl, rfl, rfl, rfl⟩) :
    PE X (.Call (.Attribute (.Dict ks vs pos') "get" apos) [i, e] [] cpos) (tF XO (eDget kvs f fx)) :=
  PE.imp (pe_dget2 (by have := C.hu; omega) (pe_disp hp hall hl h0 h15) hi hx m) fun σ H Q ⟨H₀, Hs, ρ, r, g, e, kk⟩ => by
    refine disp_made hn hl' fun p H1 s1 e1 => ⟨p, rfl, .inl ⟨_, .inl e1⟩, ?_⟩
    refine tF_bind (g.same s1) e (kk.same s1) fun l x v H2 s2 g2 r2 e2 k2 => ?_
    refine tF_bind g2 e2 k2 fun m y u H3 s3 g3 r3 e3 k3 => ?_
    split at e3
    · rename_i z
      refine ⟨_, .inl ⟨kvOf kvs, .inr z, .inl (s3 _ _ (s2 _ _ e1)), r2, rfl⟩, ?_⟩
      rw [val_lookup]
      cases hd : kvs.lookup z with
      | none =>
        rw [hd] at e3
        exact k3.give e3 (Same.refl _) r3
      | some d =>
        rw [hd] at e3
        exact k3.give e3 (Same.refl _) (rep_c (look_ok hc hd))
    · rename_i z
      refine ⟨_, .inl ⟨kvOf kvs, .inl z, .inl (s3 _ _ (s2 _ _ e1)), r2, rfl⟩, ?_⟩
      rw [val_int]
      exact k3.give e3 (Same.refl _) r3
    · cases e3
end
end KT
set_option Elab.async false
set_option linter.all false
set_option maxRecDepth 100000
namespace KT
open PySem PyProof.Rows
section
open PySem.SeqAt
open PySem.AutoSeq1 (wpAny_loadPart')
open PySem.MeetsSeq PySem.MeetsSeq2 PySem.MeetsSeq3
end
section
variable {prog : Program} {w : World} {A : Around} {E : Value → Shared → Prop} {s : Shared}
end
open PySem.Spec L2
section
variable {X : Cx} {XO : XOT} {a b : Expr} {fa fb : FE} {pos : Pos}
end
end KT
set_option Elab.async false
set_option linter.all false
set_option maxRecDepth 100000
namespace KT
open PySem PySem.Spec PyProof.Rows L2
structure Zp (z TI TO i1 i2 : Addr) : Prop where
  TIz : TI ≠ z
  TOz : TO ≠ z
  i1z : i1 ≠ z
  i2z : i2 ≠ z
  TITO : TI ≠ TO
  TIi1 : TI ≠ i1
  TIi2 : TI ≠ i2
  TOi1 : TO ≠ i1
  TOi2 : TO ≠ i2
  i12 : i1 ≠ i2
def ZSt (a b z TI TO i1 i2 : Addr) (i : Nat) (h : Heap) : Prop := IsZip h z TI TO .none ∧ IsPair h TI (.ref i1) (.ref i2) ∧ (∃ u v, IsPair h TO u v) ∧ h.IsListIter i1 a i ∧ h.IsListIter i2 b i
theorem apart {a b z TI TO i1 i2 : Addr} {i : Nat} {h : Heap} {xs ys : Array Value} (D : Zp z TI TO i1 i2) (st : ZSt a b z TI TO i1 i2 i h) (la : h.IsList a xs) (lb : h.IsList b ys) : ZipApart z TI TO i1 i2 a b := by
  obtain ⟨hz, hTI, ⟨u, v, hTO⟩, ⟨o1, e1, c1, _⟩, ⟨o2, e2, c2, _⟩⟩ := st
  have ne : ∀ (l : Addr) (zs : Array Value), h.IsList l zs → l ≠ z ∧ l ≠ TO ∧ l ≠ i1 ∧ l ≠ i2 := fun l zs ⟨o, e, c, _⟩ => by
    refine ⟨fun q => ?_, fun q => ?_, fun q => ?_, fun q => ?_⟩
    · subst q; rw [hz] at e; cases e; simp at c
    · subst q; rw [hTO] at e; cases e; simp at c
    · subst q; rw [e1] at e; cases e; rw [c1] at c; simp at c
    · subst q; rw [e2] at e; cases e; rw [c2] at c; simp at c
  obtain ⟨a1, a2, a3, a4⟩ := ne a xs la
  obtain ⟨b1, b2, b3, b4⟩ := ne b ys lb
  exact ⟨D.TIz, D.TOz, D.i1z, D.i2z, D.TITO, D.TIi1, D.TIi2, D.TOi1, D.TOi2, D.i12, a1, a2, a3, a4, b1, b2, b3, b4⟩
section
variable {X : Cx} {cv : Cfg} {XO : XOF} {e : Expr} {f fa fb fc : FE} {st : Stmt} {rest sa sb body : List Stmt} {b : FS} {pos p tpos : Pos} {tf : FT} {elts : List Expr} {k1 : Nat}
end
section
variable {X : Cx} {XO : XOT} {a b : Expr} {fa fb : FE} {pos : Pos}
end
end KT
set_option Elab.async false
set_option linter.all false
set_option maxRecDepth 100000
namespace KT
open PySem PySem.Spec PyProof.Rows
end KT
set_option Elab.async false
set_option linter.all false
set_option maxRecDepth 100000
namespace KT
open PySem PySem.Spec PyProof.Rows
section
variable {prog : Program} {w : World} {A : Around} {E : Value → Shared → Prop} {s : Shared}
def IsRevT (h : Heap) (a t : Addr) (i : Int) : Prop := ∃ o, h.get? a = some o ∧ o.cls = .type "reversed" ∧ o.data = .fields #[.ref t, rawInt i]
theorem IsRevT.typeIs {a t : Addr} {i : Int} (x : IsRevT s.heap a t i) : s.TypeIs (.ref a) "reversed" := let ⟨o, ho, hc, _⟩ := x; ⟨o, ho, hc⟩
theorem IsRevT.at {h h' : Heap} {a l : Addr} {i : Int} (x : IsRevT h a l i) (e : ∀ o, h.get? a = some o → h'.get? a = some o) : IsRevT h' a l i := let ⟨o, ho, r⟩ := x; ⟨o, e _ ho, r⟩
end
section
variable {prog : Program} {w : World} {A : Around} {E : Value → Shared → Prop} {s : Shared}
end
end KT
set_option Elab.async false
set_option linter.all false
set_option maxRecDepth 100000
namespace KT
open PySem PySem.Spec PyProof.Rows L2
section
variable {X : Cx} {XO : XOT} {e : Expr} {fa : FE} {pos p p2 p3 : Pos}
end
end KT
set_option Elab.async false
set_option linter.all false
set_option maxRecDepth 100000
namespace KT
open PySem PySem.Spec PyProof.Rows L2
section
variable {X : Cx} {XO : XOF} {cv : Cfg} {e : Expr} {f : FE} {tg : Expr} {tf : FT} {pos : Pos}
end
end KT
set_option Elab.async false
set_option linter.all false
set_option maxRecDepth 100000
namespace KT
open PySem PySem.Spec PyProof.Rows
section
variable {prog : Program} {w : World} {A : Around} {E : Value → Shared → Prop} {s : Shared}
end
end KT
set_option Elab.async false
set_option linter.all false
set_option maxRecDepth 100000
namespace KT
open PySem PySem.Spec PyProof.Rows L2
section
variable {X : Cx} {XO : XOT} {e : Expr} {fa : FE} {pos p p2 p3 : Pos}
end
end KT
set_option Elab.async false
set_option linter.all false
set_option maxRecDepth 100000
namespace KT
open PySem PySem.Spec PyProof.Rows L2
section
variable {X : Cx} {tg : Expr}
end
section
variable {X : Cx} {XO : XOT} {tg e e2 e3 : Expr} {f f2 f3 : FE} {pos p p1 p2 p3 p4 : Pos}
/-- the defs that a name may hold -/
structure PF (CX : CXT) (P : Program) (w : World) (K : PySem.W.Frag) (mg : Str → Option Value) (base : Heap) (cv : Nat → Value) (n ar : Nat) (gs : List (Nat × FC)) : Prop where
  ex : ∀ a g, gs.lookup a = some g → ∃ x, FnF CX P w K mg base cv n x ar g ∧ mg x = some (.ref a)
section
variable {CX : CXT} {P : Program} {w : World} {K : PySem.W.Frag} {mg : Str → Option Value} {base : Heap} {cv : Nat → Value} {n ar : Nat} {gs : List (Nat × FC)} {x : Str} {a : Nat} {g : FC}
end
section
variable {CX : CXT} {es : List Expr} {fs : List FE} {n ar : Nat} {gs : List (Nat × FC)}
end
/-! ### a module's tuple of numbers and texts, at an index -/
structure KTup (K : PySem.W.Frag) (mg : Str → Option Value) (x : Str) (d : PyData) : Prop where
  ex : ∃ (a : Addr) (ds : List PyData) (vs : List V), d = .tuple ds ∧ mg x = some (.ref a) ∧ (∀ H : Hp, SqT K H a vs) ∧ ∀ (P : PP) (H : Hp), Reps P H ds vs
end
end KT
set_option Elab.async false
set_option linter.all false
set_option maxRecDepth 100000
namespace KT
open PySem PySem.Spec PyProof.Rows L2 AutoSeq1
/-! ### for i, x in enumerate(t), t a tuple -/
section
variable {prog : Program} {w : World} {A : Around} {E : Value → Shared → Prop} {s : Shared}
end
section
variable {X : Cx} {elts : List Expr} {k1 : Nat} {tpos p pos : Pos}
end
section
variable {X : Cx} {XO : XOF} {cv : Cfg} {body : List Stmt} {b : FS} {pos p tpos : Pos} {tf : FT} {elts : List Expr} {k1 : Nat}
end
end KT
set_option Elab.async false
set_option linter.all false
set_option maxRecDepth 100000
namespace KT
open PySem PySem.Spec PyProof.Rows L2
section
variable {X : Cx} {XO : XOF} {cv : Cfg} {pos : Pos} {H₀ F H : Hp} {ρ : Rho} {σ : L2.St}
end
end KT
set_option Elab.async false
set_option linter.all false
set_option maxRecDepth 100000
namespace KT
open PySem PySem.Spec PyProof.Rows L2
/-! ### the end: the text's defs as they stand, all with n calls, the law's call -/
structure FunT (K : PySem.W.Frag) (mg : Str → Option Value) (x : Str) (st : Stmt) (ps : List Str) : Prop where
  ex : ∃ f fd, Fun K x x st f fd ∧ mg x = some (.ref f) ∧ Binds K fd ps [] ∧ ∀ (s : Shared) (us : List Value), us.length = ps.length → BindsTo s fd ⟨us, []⟩ (ps.zip us)
section
variable {P : Program} {w : World} {K : PySem.W.Frag} {mg : Str → Option Value} {base : Heap} {cv : Nat → Value} {CX : CXT} {n ar : Nat} {x : Str} {st : Stmt} {ps : List Str} {g : FC}
theorem fnF0 (F : FunT K mg x st ps) : FnF CX P w K mg base cv 0 x ar (fun _ => none) := by
  obtain ⟨f, fd, F, hm, hb, _⟩ := F.ex
  have no : ∀ vs H Q E, ¬ spD cv ar (fun _ => none) vs H Q E := fun vs H Q E h => by
    obtain ⟨ds, r, _, _, z, _⟩ := h
    cases z
  exact ⟨f, fd, ps, ⟨fun vs H Q E h => absurd h (no vs H Q E), fun A outer s H args us vs Q E _ _ _ _ h => absurd h (no vs H Q E)⟩, hm, F.kp, hb⟩
theorem fnFS (F : FunT K mg x st ps) (ok : ∀ f fd, Fun K x x st f fd → FnOk P w K mg base CX n f fd ps (spD cv ar g)) : FnF CX P w K mg base cv n x ar g := by
  obtain ⟨f, fd, F, hm, hb, _⟩ := F.ex
  exact ⟨f, fd, ps, ok f fd F, hm, F.kp, hb⟩
theorem funT_mk {h : Heap} {f : Addr} {oc : Value} {od an : Option Addr} {osl : Array (Option Value)} {kV doc pm cdv ct : Value} (X : K.In h) (G : h.Ns mainGlobals mg) (a : PySem.W.nsIn K mainGlobals x = some (some (.ref f)))
    (l : K.lookup f = some ⟨oc, od, .func (PySem.W.fnOf x x (defArgs st) (defBody st) (defScope st) .none kV doc pm an cdv ct), osl⟩) (c : PySem.W.codeIn K cdv x = true) (k : PySem.W.keepIn K (.ref f) = true)
    (hb : ∀ (kV doc pm : Value) (an : Option Addr) (cdv ct : Value) (us : List Value), us.length = ps.length → bindArgs (PySem.W.fnOf x x (defArgs st) (defBody st) (defScope st) .none kV doc pm an cdv ct) ⟨us, []⟩ = pure (ps.zip us)) : FunT K mg x st ps :=
  have F := fun_mk (st := st) l c k
  ⟨f, _, F, PySem.W.mg_of X G a, F.binds hb, fun s us hl => .of_eq (hb kV doc pm an cdv ct us hl)⟩
end
theorem len1 {us : List Value} (h : us.length = 1) : ∃ a, us = [a] := List.length_eq_one_iff.mp h
theorem len2 {us : List Value} (h : us.length = 2) : ∃ a b, us = [a, b] := by
  cases us with
  | nil => cases h
  | cons a r => obtain ⟨b, rfl⟩ := len1 (by simpa using h); exact ⟨a, b, rfl⟩
theorem len3 {us : List Value} (h : us.length = 3) : ∃ a b c, us = [a, b, c] := by
  cases us with
  | nil => cases h
  | cons a r => obtain ⟨b, c, rfl⟩ := len2 (by simpa using h); exact ⟨a, b, c, rfl⟩
/-- the written part bears no list -/
def noLists (K : PySem.W.Frag) : Bool := K.all fun p => p.2.cls != .type "list"
theorem frag_mem : ∀ {K : PySem.W.Frag} {a : Addr} {o : Obj}, K.lookup a = some o → (a, o) ∈ K
  | [], _, _, e => by cases e
  | (b, u) :: r, a, o, e => by
    rw [List.lookup_cons] at e
    by_cases z : (a == b) = true
    · rw [z] at e
      cases e
      have : a = b := by simpa using z
      subst this
      exact List.mem_cons_self
    · have z : (a == b) = false := by simpa using z
      rw [z] at e
      exact List.mem_cons_of_mem _ (frag_mem e)
theorem noLists_of {K : PySem.W.Frag} (h : noLists K = true) {a : Addr} {o : Obj} (e : K.lookup a = some o) : o.cls ≠ .type "list" := by
  unfold noLists at h
  rw [List.all_eq_true] at h
  have := h (a, o) (frag_mem e)
  simpa using this
theorem reps_ints {P : PP} {H : Hp} : ∀ ns : List Int, Reps P H (ns.map .int) (ns.map V.int)
  | [] => rfl
  | n :: r => ⟨.int n, _, rfl, rfl, reps_ints r⟩
theorem rep_script {K : PySem.W.Frag} {H : Hp} {a : Addr} {ns : List Int} (hk : noLists K = true) (h : SqL K H a (ns.map V.int)) : Rep (fun _ _ => True) H (.list (ns.map .int)) (.ref a) := by
  rcases h with h | ⟨o, its, n, hl, hc, _⟩
  · exact ⟨a, _, rfl, h.elim (fun z => .inl ⟨trivial, z⟩) fun z => .inr ⟨trivial, z⟩, reps_ints ns⟩
  · exact absurd hc (noLists_of hk hl)
/-! ### the error classes -/
def exName : Nat → Str
  | 1 => "NotRead"
  | 2 => "NoTurning"
  | 3 => "NoNumber"
  | 4 => "NoThing"
  | 5 => "Unlike"
  | _ => "KindError"
def gv (K : PySem.W.Frag) (x : Str) : Option Value := match PySem.W.nsIn K mainGlobals x with
  | some (some v) => some v
  | _ => none
/-- the class of an own error by its number; one that the text lacks: KindError -/
def cvOf (K : PySem.W.Frag) (c : Nat) : Value := match gv K (exName c) with
  | some v => v
  | none => (gv K "KindError").getD .none
def xclsB (K : PySem.W.Frag) (v : Value) : Bool := match v with
  | .ref D => (PySem.W.findIn K (.ref D) "__getattribute__" == some (some (.builtin "BaseException.__getattribute__"))) && (PySem.W.findIn K (.ref D) "__getattr__" == some none) && (PySem.W.mroIn K D (.type "BaseException") == some true) &&
    PySem.W.hasDictIn K D && (PySem.W.findIn K (.ref D) "__class__" == some (some (.builtin "object.__class__"))) &&
    (PySem.W.specialIn K (.builtin "object.__class__") "__get__" == some (some (.builtin "getset_descriptor.__get__"))) && (PySem.W.takesIn K (.builtin "object.__class__") == some true) && (PySem.W.mroIn K D (.type "object") == some true)
  | _ => false
theorem six {p : Nat → Prop} (h0 : p 0) (h1 : p 1) (h2 : p 2) (h3 : p 3) (h4 : p 4) (h5 : p 5) (h : ∀ c, p (c + 6)) : ∀ c, p c
  | 0 => h0
  | 1 => h1
  | 2 => h2
  | 3 => h3
  | 4 => h4
  | 5 => h5
  | c + 6 => h c
theorem cv_far (K : PySem.W.Frag) (c : Nat) : cvOf K (c + 6) = cvOf K 0 := rfl
def all6 (p : Nat → Bool) : Bool := p 0 && p 1 && p 2 && p 3 && p 4 && p 5
theorem all6_of {p : Nat → Bool} (h : all6 p = true) : p 0 = true ∧ p 1 = true ∧ p 2 = true ∧ p 3 = true ∧ p 4 = true ∧ p 5 = true := by
  simp only [all6, Bool.and_eq_true] at h
  obtain ⟨⟨⟨⟨⟨a, b⟩, c⟩, d⟩, e⟩, f⟩ := h
  exact ⟨a, b, c, d, e, f⟩
theorem by6 {K : PySem.W.Frag} {p : Nat → Value → Prop} {q : Nat → Bool} (h : all6 q = true) (hq : ∀ c, q c = true → p c (cvOf K c)) (hp : ∀ c v, p 0 v → p (c + 6) v) : ∀ c, p c (cvOf K c) := by
  obtain ⟨h0, h1, h2, h3, h4, h5⟩ := all6_of h
  exact six (hq 0 h0) (hq 1 h1) (hq 2 h2) (hq 3 h3) (hq 4 h4) (hq 5 h5) fun c => by rw [cv_far]; exact hp c _ (hq 0 h0)
theorem xall_of {K : PySem.W.Frag} (h : all6 (fun c => xclsB K (cvOf K c)) = true) : XAll K (cvOf K) := by
  refine ⟨by6 (p := fun _ v => ∃ D, v = .ref D ∧ XCls K D) h (fun c hc => ?_) fun _ _ z => z⟩
  have hc : xclsB K (cvOf K c) = true := hc
  unfold xclsB at hc
  split at hc
  · rename_i D hD
    simp only [Bool.and_eq_true, beq_iff_eq] at hc
    obtain ⟨⟨⟨⟨⟨⟨⟨a, b⟩, c⟩, d⟩, e⟩, f⟩, g⟩, i⟩ := hc
    exact ⟨D, hD, a, b, c, d, e, f, g, i⟩
  · cases hc
def xallB (K : PySem.W.Frag) : Bool := all6 fun c => xclsB K (cvOf K c)
def isoB (K : PySem.W.Frag) (x : Str) (sub : Nat → Bool) : Bool := match gv K x with
  | some (.ref C) => all6 fun c => PySem.W.kitOne K (cvOf K c) (.ref C) == some (sub c)
  | _ => false
def isvB (K : PySem.W.Frag) (sub : Nat → Bool) : Bool := all6 fun c => PySem.W.kitOne K (cvOf K c) (.type "ValueError") == some (sub c)
def hanB (K : PySem.W.Frag) (x : Str) (sub : Nat → Bool) : Bool := match gv K x with
  | some v => all6 fun c => PySem.W.exmOne K (cvOf K c) v == some (sub c)
  | _ => false
def excB (K : PySem.W.Frag) (x : Str) : Bool := match gv K x with
  | some (.ref C) => PySem.W.excIn K C vbm "ValueError.__new__"
  | _ => false
section
variable {K : PySem.W.Frag} {h : Heap} {mg : Str → Option Value} {x : Str} {sub : Nat → Bool}
theorem gv_mg {v : Value} (X : K.In h) (G : h.Ns mainGlobals mg) (e : gv K x = some v) : mg x = some v := by
  unfold gv at e
  split at e
  · rename_i z
    cases e
    exact PySem.W.mg_of X G z
  · cases e
/-- an own class in an isinstance -/
theorem isF_own (X : K.In h) (G : h.Ns mainGlobals mg) (hs : ∀ c, sub (c + 6) = sub 0) (ha : xallB K = true) (hb : isoB K x sub = true) : IsF K mg (cvOf K) x sub := by
  refine ⟨xall_of ha, .inl ?_⟩
  unfold isoB at hb
  split at hb
  · rename_i C hC
    exact ⟨C, gv_mg X G hC, by6 (p := fun c v => PySem.W.kitOne K v (.ref C) = some (sub c)) hb (fun c z => by simpa using z) fun c v z => by rw [hs]; exact z⟩
  · cases hb
/-- ValueError in an isinstance -/
theorem isF_val (X : K.In h) (G : h.Ns mainGlobals mg) (hs : ∀ c, sub (c + 6) = sub 0) (ha : xallB K = true) (hn : PySem.W.nsIn K mainGlobals "ValueError" = some none)
    (hb : isvB K sub = true) : IsF K mg (cvOf K) "ValueError" sub := by
  refine ⟨xall_of ha, .inr ⟨"ValueError", PySem.W.mg_none_of X G hn, by decide +kernel, by6 (p := fun c v => PySem.W.kitOne K v (.type "ValueError") = some (sub c)) hb (fun c z => by simpa using z) fun c v z => by rw [hs]; exact z⟩⟩
theorem hanF_own (X : K.In h) (G : h.Ns mainGlobals mg) (hs : ∀ c, sub (c + 6) = sub 0)
    (hb : hanB K x sub = true) : HanF K mg (cvOf K) x sub := by
  refine ⟨?_⟩
  unfold hanB at hb
  split at hb
  · rename_i v hv
    exact ⟨v, gv_mg X G hv, by6 (p := fun c u => PySem.W.exmOne K u v = some (sub c)) hb (fun c z => by simpa using z) fun c u z => by rw [hs]; exact z⟩
  · cases hb
theorem excF_own {c : Nat} (X : K.In h) (G : h.Ns mainGlobals mg) (hx : x = exName c)
    (hb : excB K x = true) : ExcF K mg (cvOf K) x c := by
  refine ⟨?_⟩
  unfold excB at hb
  split at hb
  · rename_i C hC
    refine ⟨C, ?_, gv_mg X G hC, hb⟩
    unfold cvOf
    rw [← hx, hC]
  · cases hb
theorem mF_of (X : K.In h) (G : h.Ns mainGlobals mg) (hb : (["len", "int", "bool", "str", "tuple", "list", "isinstance", "range", "enumerate", "zip", "reversed"] : List Str).all (fun x => PySem.W.nsIn K mainGlobals x == some none) = true) : MF mg := by
  simp only [List.all_cons, List.all_nil, Bool.and_true, Bool.and_eq_true, beq_iff_eq] at hb
  obtain ⟨a, b, c, d, e, f, g, i, j, k, l⟩ := hb
  exact ⟨PySem.W.mg_none_of X G a, PySem.W.mg_none_of X G b, PySem.W.mg_none_of X G c, PySem.W.mg_none_of X G d, PySem.W.mg_none_of X G e, PySem.W.mg_none_of X G f, PySem.W.mg_none_of X G g, PySem.W.mg_none_of X G i, PySem.W.mg_none_of X G j, PySem.W.mg_none_of X G k, PySem.W.mg_none_of X G l⟩
end
theorem cx1_none {P : Program} {w : World} {H : Hp} {s : Shared} {e : Value} {s' : Shared} (h : CX1 P w [] H s (fun _ _ _ => False) e s') : False := by
  obtain ⟨_, _, _, _, _, _, _, _, _, z⟩ := h
  exact z
theorem law_sp {K : PySem.W.Frag} {cv : Nat → Value} {g : FC} {H : Hp} {a : Addr} {ns : List Int} (hk : noLists K = true) (hg : g [.list (ns.map .int)] = some (.ok (.bool true))) (h : SqL K H a (ns.map V.int)) : spD cv 1 g [.ref a] H (fun v _ => v = .bl true) fun _ _ _ => False :=
  ⟨[.list (ns.map .int)], _, rfl, ⟨.ref a, [], rfl, rep_script hk h, rfl⟩, hg, fun d v H' e _ r => by cases e; exact r, fun c H' e => (nomatch e)⟩
theorem walk {l : PySem.W.OpenLaw} {q : Program} {loose : List Str} {XP : (Str → Option Value) → Heap → Prop} {YP : World → Heap → Prop} {d : DefRec} {K : Params → PySem.W.Frag} {g : FC} {N : Nat} {st : Stmt} (hn : l.most = some 63) (hdf : d.params.defaults = []) (hr : Room N callerA)
    (hY : ∀ (w : World) (h : Heap), YP w h → (K w.params).In h) (hd : d.name = "law")
    (F : ∀ (w : World) (mg : Str → Option Value) (h : Heap), (K w.params).In h → h.Ns mainGlobals mg → FunT (K w.params) mg "law" st ["script"] ∧
      ∀ f fd, Fun (K w.params) "law" "law" st f fd → ∀ base : Heap, FnOk l.prog w (K w.params) mg base (CX1 l.prog w) N f fd ["script"] (spD (cvOf (K w.params)) 1 g))
    (hL : ∀ w : World, noLists (K w.params) = true) (hg : ∀ ns : List Int, ns.length ≤ 63 → g [.list (ns.map .int)] = some (.ok (.bool true))) :
    PySem.W.WalkO q loose XP YP l.row.toRowW d [] (fun f vs => PySem.call f vs) :=
  L2.walk_of (n := 63) (k := N) (x := "script") (CX := fun w => CX1 l.prog w) (sp := fun w => spD (cvOf (K w.params)) 1 g) hn (by decide) hdf hr hY (fun w mg fa h KX G hm => by
    obtain ⟨T, ok⟩ := F w mg h KX G
    obtain ⟨f, fd, FF, hmf, _, hb⟩ := T.ex
    rw [hd, hmf] at hm
    cases hm
    exact ⟨fd, fun s u => hb s [u] rfl, fun base _ _ => ok _ fd FF base⟩) (fun w H a ns hl _ hS => law_sp (hL w) (hg ns hl) hS) fun w H s e s' z => cx1_none z
end KT
set_option Elab.async false
set_option linter.all false
set_option maxRecDepth 100000
namespace KT
open PySem PySem.Spec PyProof.Rows L2
/-! ### a module's constants -/
def scB : PyData → Value → Bool
  | .int i, .int j _ => i == j
  | .str x, .str y _ => x == y
  | _, _ => false
def scAll : List PyData → List Value → Bool
  | [], [] => true
  | d :: ds, u :: us => scB d u && scAll ds us
  | _, _ => false
def scV : PyData → V
  | .int i => .int i
  | .str x => .str x
  | _ => .non
theorem sc_rel {d : PyData} {u : Value} (h : scB d u = true) : RelV (scV d) u ∧ ∀ (P : PP) (H : Hp), Rep P H d (scV d) := by
  unfold scB at h
  split at h
  · rename_i i j t
    have e : i = j := by simpa using h
    subst e
    exact ⟨⟨t, rfl⟩, fun _ _ => rfl⟩
  · rename_i x y t
    have e : x = y := by simpa using h
    subst e
    exact ⟨⟨t, rfl⟩, fun _ _ => rfl⟩
  · cases h
theorem sc_all : ∀ {ds : List PyData} {us : List Value}, scAll ds us = true → Vals (ds.map scV) us ∧ ∀ (P : PP) (H : Hp), Reps P H ds (ds.map scV)
  | [], [], _ => ⟨.nil, fun _ _ => rfl⟩
  | d :: ds, u :: us, h => by
    simp only [scAll, Bool.and_eq_true] at h
    obtain ⟨r1, p1⟩ := sc_rel h.1
    obtain ⟨r2, p2⟩ := sc_all h.2
    exact ⟨.cons r1 r2, fun P H => ⟨_, _, rfl, p1 P H, p2 P H⟩⟩
  | [], _ :: _, h => by cases h
  | _ :: _, [], h => by cases h
end KT
set_option Elab.async false
set_option linter.all false
set_option maxRecDepth 100000
namespace KT
open PySem PySem.W PyProof.Rows
/-! ### what the tree of a sort's questions comes to: a row that rises -/
noncomputable def ev {α : Type} (lt : Nat → Nat → Bool) : KasT α → α
  | .ret a => a
  | .ask i j k => ev lt (k (lt i j))
section
variable {O : KeyOrd} (κ : Nat → O.α)
variable {κ}
end
end KT
set_option Elab.async false
set_option linter.all false
namespace KT
open PySem
/-! ### texts: walked, joined -/
def charsD (z : Str) : List PyData := z.cps.toList.map fun c => .str ⟨#[c]⟩
def iText (f : FE) : FI := fun ρ => match f ρ with
  | some (.ok _ (.str z)) => some (.ok 2 (charsD z))
  | some (.exc c) => some (.exc c)
  | _ => none
/-! ### a module's dict of texts: LEAVES[x], x in LEAVES -/
def eKdix (kvs : List (Str × PyData)) (f : FE) : FE := fun ρ => bindE (f ρ) fun _ x => match x with
  | .str z => (kvs.lookup z).map fun d => .ok 2 d
  | _ => none
def eKdin (neg : Bool) (kvs : List (Str × PyData)) (f : FE) : FE := fun ρ => bindE (f ρ) fun _ x => match x with
  | .str z => some (.ok 2 (.bool (if neg then !((kvs.lookup z).isSome) else (kvs.lookup z).isSome)))
  | _ => none
/-! ### a list that is lent to a def: it is changed there -/
/-- what a call with a lent list is worth: an error or nothing, and the list behind it -/
abbrev FL := List PyData → Option (Option Nat × List PyData)
def lentOf (ρ : Rho) : Option (List PyData) := match (ρ[(0 : Nat)]? : Option (Option Slot)) with
  | some (some (.lent ds)) => some ds
  | _ => none
def runL (n : Nat) (b : FS) : FL := fun ds => match b (some (.lent ds) :: List.replicate (n - 1) none) with
  | some (.next ρ) => (lentOf ρ).map fun ds' => (none, ds')
  | some (.exc c ρ) => (lentOf ρ).map fun ds' => (some c, ds')
  | _ => none
def sCallL (g : FL) (i : Nat) : FS := fun ρ => match ρ[i]? with
  | some (some (.own ds)) => (match g ds with
    | some (none, ds') => some (.next (ρ.set i (some (.own ds'))))
    | some (some c, ds') => some (.exc c (ρ.set i (some (.own ds'))))
    | none => none)
  | _ => none
def sAppendT (i : Nat) (f : FE) : FS := fun ρ => match ρ[i]? with
  | some (some (.lent xs)) => bindS (f ρ) ρ fun _ d => if (lf d && decide (xs.length < big)) = true then some (.next (ρ.set i (some (.lent (xs ++ [d]))))) else none
  | _ => none
/-- x_j = x_i.pop(), x_i lent -/
def sPopT (j i : Nat) : FS := fun ρ => match ρ[i]? with
  | some (some (.lent xs)) => (match xs[xs.length - 1]? with
    | some d => if i = j then none else some (.next ((ρ.set i (some (.lent xs.dropLast))).set j (some (.loc d))))
    | none => none)
  | _ => none
/-- x_i.pop(), x_i lent -/
def sPopTX (i : Nat) : FS := fun ρ => match ρ[i]? with
  | some (some (.lent xs)) => (match xs[xs.length - 1]? with
    | some _ => some (.next (ρ.set i (some (.lent xs.dropLast))))
    | none => none)
  | _ => none
/-! ### text[lo:hi], "abcd".index(x) -/
def dSlS (lo hi : Option Int) : PyData → Option PyData
  | .str z => if z.length ≤ big then some (.str ⟨(cutP z.cps.toList lo hi).toArray⟩) else none
  | _ => none
def eSlS (f : FE) (lo hi : FO) : FE := fun ρ => bindE (f ρ) fun _ x => match lo ρ with
  | some (.ok l) => (match hi ρ with
    | some (.ok h) => (dSlS l h x).map fun d => .ok 2 d
    | some (.exc c) => some (.exc c)
    | none => none)
  | some (.exc c) => some (.exc c)
  | none => none
def abT : List (Str × Int) := [("a", 0), ("b", 1), ("c", 2), ("d", 3)]
def eAbcd (f : FE) : FE := fun ρ => bindE (f ρ) fun _ x => match x with
  | .str z => (abT.lookup z).map fun i => .ok 2 (.int i)
  | _ => none
end KT
set_option Elab.async false
set_option linter.all false
set_option maxRecDepth 100000
namespace KT
open PySem PySem.W PyProof.Rows
/-! ### one row that rises, of given keys -/
section
variable {O : KeyOrd}
end
/-! ### the builtin itself, over a bare heap -/
section
variable {prog : Program} {w : World} {A : Around} {E : Value → Shared → Prop} {s : Shared}
/-- what stays: every object but one -/
def But (a : Addr) (h h' : Heap) : Prop := ∀ b o, b ≠ a → h.get? b = some o → h'.get? b = some o
theorem But.trans {a : Addr} {h h' h2 : Heap} (k : But a h h') (k2 : But a h' h2) : But a h h2 := fun b o hb e => k2 b o hb (k b o hb e)
end
end KT
set_option Elab.async false
set_option linter.all false
set_option maxRecDepth 100000
namespace KT
open PySem PySem.W PyProof.Rows
section
variable {prog : Program} {w : World} {A : Around} {E : Value → Shared → Prop} {s : Shared}
def Ext (h h' : Heap) : Prop := ∀ b o, h.get? b = some o → h'.get? b = some o
end
end KT
set_option Elab.async false
set_option linter.all false
set_option maxRecDepth 100000
namespace KT
open PySem PySem.W PyProof.Rows
/-! ### rows of whole numbers: tuples -/
def RowsAre (h : Heap) : List Value → List (List Int) → Prop
  | [], [] => True
  | v :: vs, r :: rs => (∃ (a : Addr) (o : Obj) (xs : Array Value) (n : Nat), v = .ref a ∧ h.get? a = some o ∧ o.cls = .type "tuple" ∧ o.data = .seq xs n ∧ IntsAre xs.toList r) ∧ RowsAre h vs rs
  | _, _ => False
theorem RowsAre.length {h : Heap} : ∀ {vs : List Value} {rs : List (List Int)}, RowsAre h vs rs → vs.length = rs.length
  | [], [], _ => rfl
  | [], _ :: _, h => h.elim
  | _ :: _, [], h => h.elim
  | _ :: vs, _ :: rs, h => by simp [h.2.length]
theorem RowsAre.ext {h h' : Heap} (k : Ext h h') : ∀ {vs : List Value} {rs : List (List Int)}, RowsAre h vs rs → RowsAre h' vs rs
  | [], [], _ => trivial
  | [], _ :: _, h => h.elim
  | _ :: _, [], h => h.elim
  | _ :: vs, _ :: rs, ⟨⟨a, o, xs, n, e, ho, r⟩, t⟩ => ⟨⟨a, o, xs, n, e, k _ _ ho, r⟩, t.ext k⟩
theorem RowsAre.at_ {h : Heap} : ∀ {vs : List Value} {rs : List (List Int)} {i : Nat}, RowsAre h vs rs → i < vs.length →
    ∃ (a : Addr) (o : Obj) (xs : Array Value) (n : Nat), vs.getD i Value.none = .ref a ∧ h.get? a = some o ∧ o.cls = .type "tuple" ∧ o.data = .seq xs n ∧ IntsAre xs.toList (rs.getD i [])
  | [], [], _, _, hi => by simp at hi
  | [], _ :: _, _, h, _ => h.elim
  | _ :: _, [], _, h, _ => h.elim
  | _ :: vs, _ :: rs, 0, h, _ => h.1
  | _ :: vs, _ :: rs, i + 1, h, hi => by
    have := RowsAre.at_ (i := i) h.2 (by simpa using hi)
    simpa using this
section
variable {M : Model} {prog : Program} {w : World} {A : Around} {E : Value → Shared → Prop} {s : Shared}
end
end KT
set_option Elab.async false
set_option linter.all false
set_option maxRecDepth 100000
namespace KT
open PySem PySem.Spec PyProof.Rows L2
section
variable {X : Cx}
variable {XO : XOT} {a : Expr} {fa : FE} {pos p : Pos}
end
end KT
set_option Elab.async false
set_option linter.all false
set_option maxRecDepth 100000
namespace KT
open PySem PySem.Spec PyProof.Rows L2
section
variable {X : Cx}
variable {XO : XOT} {a : Expr} {fa : FE} {pos p : Pos}
end
end KT
set_option Elab.async false
set_option linter.all false
set_option maxRecDepth 100000
namespace KT
open PySem PySem.Spec PyProof.Rows L2
/-! ### for x in reversed(list) -/
def Itr (K : PySem.W.Frag) (a : Addr) (n : Nat) : It :=
  ⟨fun i H => ∃ xs x, SqL K H a xs ∧ i < n ∧ xs[n - 1 - i]? = some x, fun i H x H' => H' = H ∧ ∀ xs, SqL K H a xs → xs[n - 1 - i]? = some x, fun i _ => i = n⟩
section
variable {X : Cx} {XO : XOT} {e : Expr} {f : FE} {pos p : Pos} {tg : Expr}
end
end KT
set_option Elab.async false
set_option linter.all false
set_option maxRecDepth 100000
namespace KT
open PySem PySem.Spec PyProof.Rows L2
/-! ### for x in text -/
def Its (x : Str) : It := ⟨fun i _ => i < x.cps.size, fun i H v H' => H' = H ∧ ∃ c, x.cps[i]? = some c ∧ v = .str ⟨#[c]⟩, fun i _ => x.cps.size ≤ i⟩
theorem turn_text {P : Program} {w : World} {K : PySem.W.Frag} {tg : Expr} (it : Addr) (x : Str) (t : Tok) (b : Bool) : Turn P w K tg (Its x) [it] it (fun i h => h.IsStrIter it (if b then "str_ascii_iterator" else "str_iterator") x t i) where
  mem := by simp
  obj := fun i h st b' hb => by
    have e : b' = it := by simpa using hb
    subst e
    obtain ⟨o, e, c, d⟩ := st
    exact ⟨o, e, fun v z => by rw [d] at z; cases z⟩
  keep := fun i h h' st k => by
    obtain ⟨o, e, c, d⟩ := st
    exact ⟨o, k it (by simp) o e, c, d⟩
  item := by
    intro X hP hw hK hc i pins s σ H E I hf st hg
    subst hP hw hK
    have hlt : i < x.cps.size := hg
    have hx : x.cps[i]? = some x.cps[i] := Array.getElem?_eq_getElem hlt
    obtain ⟨f0, f1, f2, f3, f4, f5⟩ := hf it (by simp)
    have fin : ∀ h', h'.IsStrIter it (if b then "str_ascii_iterator" else "str_iterator") x t (i + 1) → Heap.SameBut it s.heap h' → ∃ u, some (Value.str ⟨#[x.cps[i]]⟩ s.toks) = some u ∧
        wpAny (model X.prog X.w) X.A (letOwnedTupleGo tg (.ref it) u) (fun _ s2 => ∃ v H', Inv X pins σ H' s2 ∧ RelV v u ∧ (Its x).yld i H v H' ∧ s2.heap.IsStrIter it (if b then "str_ascii_iterator" else "str_iterator") x t (i + 1) ∧ ∀ b ∈ [it], H' b = none) E { s with heap := h', toks := s.toks + 1 } := fun h' st' sb => by
      have I1 : Inv X pins σ H { s with heap := h', toks := s.toks + 1 } := I.turned (fun b o hb e => (sb.2 b hb).trans e) f0 f1 f3 f4 f5
      obtain ⟨o, e, c, d⟩ := id st'
      refine ⟨_, rfl, go_of (s := { s with heap := h', toks := s.toks + 1 }) e c d (by cases b <;> decide) ⟨.str ⟨#[x.cps[i]]⟩, H, I1, ⟨_, rfl⟩, ⟨rfl, _, hx, rfl⟩, st', fun b hb => (hf b hb).1⟩⟩
    cases b with
    | true => exact wpAny_pyNext_ascii_item st hx fin
    | false => exact wpAny_pyNext_wide_item st hx fin
  done := by
    intro X hP hw hK hc i pins s σ H E I hf st hg
    subst hP hw hK
    have hle : x.cps.size ≤ i := hg
    have hx : x.cps[i]? = none := Array.getElem?_eq_none hle
    obtain ⟨f0, f1, f2, f3, f4, f5⟩ := hf it (by simp)
    cases b with
    | true => exact wpAny_pyNext_ascii_end (I.ok.hd hc) st hx fun h' eb => ⟨rfl, I.turned (t' := s.toks) (fun b o hb e => eb b o hb e) f0 f1 f3 f4 f5⟩
    | false => exact wpAny_pyNext_wide_end (I.ok.hd hc) st hx fun h' eb => ⟨rfl, I.turned (t' := s.toks) (fun b o hb e => eb b o hb e) f0 f1 f3 f4 f5⟩
  self := fun A i s Q E st h => by
    cases b with
    | true => exact wpAny_pyIter_striter_ascii st h
    | false => exact wpAny_pyIter_striter_wide st h
section
variable {X : Cx} {XO : XOT} {tg e : Expr} {f : FE} {pos : Pos}
def iTxt (tl : TE) : TI := fun σ H R => tl σ H fun x H1 => ∃ z, x = .str z ∧ R (Its z) H1
theorem pi_text {l : Expr} {tl : TE} (hl : PE X l tl) : PI X tg l (iTxt tl) := by
  intro pins s σ H R I h
  refine thn (hl pins s σ H _ I h) fun v s1 ⟨x, H1, I1, r1, q1⟩ => ?_
  obtain ⟨z, e, q⟩ := q1
  subst e
  obtain ⟨t, rfl⟩ := (show ∃ t, v = Value.str z t from r1)
  cases ha : z.cps.all (· < 128) with
  | true =>
    refine wpAny_pyIter_ascii ha ?_
    refine ⟨s1.heap.objs.size, [s1.heap.objs.size], _, _, H1, rfl, I1.kept (t' := s1.toks) fun b o e => Heap.get?_push_of_some _ e, turn_text _ z t true, ⟨_, Heap.get?_push_size _ rfl, rfl, rfl⟩, fun b hb => ?_, q⟩
    have e : b = s1.heap.objs.size := by simpa using hb
    subst e
    exact I1.fpOk (Nat.le_refl _) (I1.hok.fresh (Nat.le_refl _))
  | false =>
    refine wpAny_pyIter_wide ha ?_
    refine ⟨s1.heap.objs.size, [s1.heap.objs.size], _, _, H1, rfl, I1.kept (t' := s1.toks) fun b o e => Heap.get?_push_of_some _ e, turn_text _ z t false, ⟨_, Heap.get?_push_size _ rfl, rfl, rfl⟩, fun b hb => ?_, q⟩
    have e : b = s1.heap.objs.size := by simpa using hb
    subst e
    exact I1.fpOk (Nat.le_refl _) (I1.hok.fresh (Nat.le_refl _))
theorem yields_text {Z : Hp} {z : Str} : Yields Z (Its z) (charsD z) := fun H2 s i => by
  refine ⟨fun d hd => ?_, fun hi => ?_⟩
  · unfold charsD at hd
    rw [List.getElem?_map] at hd
    cases hr : z.cps.toList[i]? with
    | none => rw [hr] at hd; cases hd
    | some c =>
      rw [hr] at hd
      cases hd
      have hlt : i < z.cps.size := by
        have := (List.getElem?_eq_some_iff.mp hr).1
        simpa using this
      have hc : z.cps[i]? = some c := by rw [← Array.getElem?_toList]; exact hr
      refine ⟨hlt, fun x H3 y => ?_⟩
      obtain ⟨e, c', hc', rfl⟩ := y
      subst e
      rw [hc] at hc'
      cases hc'
      exact ⟨Same.refl _, rfl⟩
  · show z.cps.size ≤ i
    rw [hi]
    simp [charsD]
theorem i_text (h : PE X e (tF XO f)) : PI X tg e (tI XO (iText f)) :=
  PI.imp (pi_text h) fun σ H R ⟨H₀, Hs, ρ, r, g, e, k, kx⟩ => by
    unfold iText at e
    split at e
    · rename_i l z hf
      cases e
      refine ⟨H₀, Hs, ρ, _, g, hf, ⟨fun l' d' v H1 e' s1 r1 => ?_, fun c H' e => (nomatch e)⟩⟩
      cases e'
      exact ⟨z, r1, k 2 _ _ H1 rfl s1 fun Z _ _ => yields_text⟩
    · rename_i c hf
      cases e
      exact ⟨H₀, Hs, ρ, _, g, hf, ⟨fun l' d' v H1 e' s1 r1 => (nomatch e'), fun c' H' e' s => kx c' H' (by cases e'; rfl) s⟩⟩
    · cases e
end
end KT
set_option Elab.async false
set_option linter.all false
set_option maxRecDepth 100000
namespace KT
open PySem PySem.Spec PyProof.Rows L2
/-! ### a module's dict whose keys are texts: its values whole numbers, texts, tuples of these -/
/-- a value of the written part, as a datum -/
def KVal (K : PySem.W.Frag) (d : PyData) (u : Value) : Prop := scB d u = true ∨ ∃ ds b o, d = .tuple ds ∧ u = .ref b ∧ K.lookup b = some o ∧ stO o = some (ds.map scV) ∧ ∀ (P : PP) (H : Hp), Reps P H ds (ds.map scV)
inductive KEnt (K : PySem.W.Frag) (P : Params) : List DictEntry → List (Str × PyData) → Prop
  | nil : KEnt K P [] []
  | cons {z : Str} {t : Tok} {u : Value} {d : PyData} {es : List DictEntry} {kvs : List (Str × PyData)} : KVal K d u → KEnt K P es kvs → KEnt K P (⟨PyData.keyHash P z, .str z t, u⟩ :: es) ((z, d) :: kvs)
structure KDct (K : PySem.W.Frag) (P : Params) (mg : Str → Option Value) (x : Str) (kvs : List (Str × PyData)) : Prop where
  ex : ∃ a es ep, mg x = some (.ref a) ∧ (a == sysModules) = false ∧ K.lookup a = some ⟨.type "dict", none, .dict es ep, #[]⟩ ∧ KEnt K P es.toList kvs ∧ (kvs.map (·.1)).Nodup
def evs : List DictEntry → List (Str × PyData) → List (Key × Value)
  | e :: es, (z, _) :: kvs => (.inr z, e.val) :: evs es kvs
  | _, _ => []
theorem kent_keys {K : PySem.W.Frag} {prog : Program} {w : World} : ∀ {es : List DictEntry} {kvs : List (Str × PyData)}, KEnt K w.params es kvs → ∀ e ∈ es, ∃ k, (mixKind prog w).is k e.key = true ∧ e.hash = (mixKind prog w).hash k
  | _, _, .nil, e, h => by cases h
  | _, _, .cons (z := z) (t := t) _ r, e, h => by
    rcases List.mem_cons.mp h with rfl | h
    · exact ⟨.inr z, mixKind_str prog w z t, rfl⟩
    · exact kent_keys r e h
theorem kent_pairs {K : PySem.W.Frag} {prog : Program} {w : World} : ∀ {es : List DictEntry} {kvs : List (Str × PyData)}, KEnt K w.params es kvs → Pairs (mixKind prog w) es (evs es kvs)
  | _, _, .nil => .nil
  | _, _, .cons (z := z) (t := t) _ r => .cons (mixKind_str prog w z t) rfl (kent_pairs r)
theorem kent_fst {K : PySem.W.Frag} {P : Params} : ∀ {es : List DictEntry} {kvs : List (Str × PyData)}, KEnt K P es kvs → (evs es kvs).map (·.1) = kvs.map fun p => (.inr p.1 : Key)
  | _, _, .nil => rfl
  | _, _, .cons _ r => by simp only [evs, List.map_cons, kent_fst r]
theorem kent_val {K : PySem.W.Frag} {P : Params} (x : Str) : ∀ {es : List DictEntry} {kvs : List (Str × PyData)}, KEnt K P es kvs → (valueAt (evs es kvs) (.inr x) = none ∧ kvs.lookup x = none) ∨ ∃ d u, valueAt (evs es kvs) (.inr x) = some u ∧ kvs.lookup x = some d ∧ KVal K d u
  | _, _, .nil => .inl ⟨rfl, rfl⟩
  | _, _, .cons (z := z) (u := u) (d := d) (es := es) (kvs := kvs) hv r => by
    by_cases e : z = x
    · subst e
      exact .inr ⟨d, u, by simp [valueAt, evs], by simp [List.lookup_cons], hv⟩
    · have e' : (x == z) = false := by simpa using fun q => e q.symm
      have ne : ¬ (Sum.inr z : Key) = Sum.inr x := fun q => e (Sum.inr.inj q)
      have e1 : valueAt ((Sum.inr z, u) :: evs es kvs) (.inr x) = valueAt (evs es kvs) (.inr x) := by simp [valueAt, List.find?_cons, ne]
      have e2 : List.lookup x ((z, d) :: kvs) = kvs.lookup x := by rw [List.lookup_cons, e']
      show (valueAt ((Sum.inr z, u) :: evs es kvs) (.inr x) = none ∧ List.lookup x ((z, d) :: kvs) = none) ∨ ∃ d' u', valueAt ((Sum.inr z, u) :: evs es kvs) (.inr x) = some u' ∧ List.lookup x ((z, d) :: kvs) = some d' ∧ KVal K d' u'
      rw [e1, e2]
      exact kent_val x r
theorem kd_dict {K : PySem.W.Frag} {prog : Program} {w : World} {h : Heap} {a : Addr} {es : Array DictEntry} {ep : Nat} {kvs : List (Str × PyData)} (X : K.In h) (l : K.lookup a = some ⟨.type "dict", none, .dict es ep, #[]⟩) (k : KEnt K w.params es.toList kvs) (nd : (kvs.map (·.1)).Nodup) :
    h.DictOf (mixKind prog w) a (evs es.toList kvs) := by
  refine ⟨_, es, ep, X _ _ l, ⟨rfl, rfl, rfl⟩, rfl, fun e he => kent_keys k e (by simpa using he), kent_pairs k, ?_⟩
  rw [kent_fst k]
  have : (kvs.map fun p => (Sum.inr p.1 : Key)) = (kvs.map (·.1)).map Sum.inr := by simp
  rw [this]
  exact List.Pairwise.map _ (fun a b n q => n (Sum.inr.inj q)) nd
/-- what the heap bears of a value of the written part -/
theorem kval_rep {X : Cx} {pins : List (Addr × Obj)} {σ : L2.St} {H : Hp} {s : Shared} (I : Inv X pins σ H s) {d : PyData} {u : Value} (h : KVal X.K d u) : ∃ v, RelV v u ∧ ∀ P : PP, Rep P H d v := by
  rcases h with h | ⟨ds, b, o, rfl, rfl, l, q, r⟩
  · obtain ⟨r, p⟩ := sc_rel h
    exact ⟨_, r, fun P => p P H⟩
  · have e := (I.bs b o (I.ok.mod.kin b o l)).2.2 _ l q
    exact ⟨.ref b, rfl, fun P => ⟨b, _, rfl, .inr ⟨o, e⟩, r P H⟩⟩
section
variable {X : Cx} {XO : XOT} {e : Expr} {f : FE} {pos p : Pos} {x : Str} {kvs : List (Str × PyData)}
theorem x_kdix (D : KDct X.K X.w.params X.mg x kvs) (h : PE X e (tF XO f)) (hg : Gl X x := by rfl) (hd : (x == ("__debug__" : Str)) = false := by decide) (hs : NoSl e := by exact fun _ _ => rfl) : PE X (.Subscript (.Name x p) e pos) (tF XO (eKdix kvs f)) := by
  obtain ⟨a, es, ep, hm, hsys, l, k, nd⟩ := D.ex
  intro pins s σ H Q I ⟨H₀, Hs, ρ, r, g, ee, kk⟩
  refine subD_of PySem.F.slot_dict_getitem.lookup hs (ld_glob I hg hm ?_ hd)
  refine thn (h pins s σ H (fun v H1 => ∃ z d, v = .str z ∧ kvs.lookup z = some d ∧ ∀ v' H2, Same H1 H2 → Rep (PL H₀ Hs 2) H2 d v' → Q v' H2) I (tF_bind g ee kk fun l x v H1 s1 g1 r1 e1 k1 => ?_)) fun u s1 ⟨v, H1, I1, rv, z, d, ev, hl, q⟩ => ?_
  · split at e1
    · rename_i z
      cases hz : kvs.lookup z with
      | none => rw [hz] at e1; cases e1
      | some d =>
        rw [hz] at e1
        exact ⟨z, d, r1, hz, fun v' H2 s2 r2 => k1.give e1 s2 r2⟩
    · cases e1
  · subst ev
    have dd : s1.heap.DictOf (mixKind X.prog X.w) a (evs es.toList kvs) := kd_dict I1.kIn l k nd
    refine ⟨dd.typeIs, ?_⟩
    rcases kent_val z k with ⟨_, h2⟩ | ⟨d', u', h1, h2, hv⟩
    · rw [hl] at h2; cases h2
    · rw [hl] at h2
      cases h2
      obtain ⟨v', rv', rp⟩ := kval_rep (I1.tok (s1.toks + 1)) hv
      exact wpAny_getItem_of (knd := mixKind X.prog X.w) (k := .inr z) (kV_is (k := .inr z) rv) dd.mapOf h1 ⟨v', H1, I1.tok _, rv', q v' H1 (Same.refl _) (rp _)⟩
theorem op_kdin (neg : Bool) (D : KDct X.K X.w.params X.mg x kvs) {a : Addr} (hma : X.mg x = some (.ref a)) : OpR X (compareOp (if neg then .NotIn else .In)) (fun y c H Q => ∃ z, y = .str z ∧ c = .ref a ∧ Q (.bl (if neg then !((kvs.lookup z).isSome) else (kvs.lookup z).isSome)) H) := by
  obtain ⟨a', es, ep, hm, hsys, l, k, nd⟩ := D.ex
  rw [hma] at hm
  cases hm
  intro pins s σ H y c v u Q I ry rc h
  obtain ⟨z, rfl, rfl, q⟩ := h
  obtain rfl : u = Value.ref a := rc
  have dd : s.heap.DictOf (mixKind X.prog X.w) a (evs es.toList kvs) := kd_dict I.kIn l k nd
  have hb : (valueAt (evs es.toList kvs) (.inr z)).isSome = (kvs.lookup z).isSome := by
    rcases kent_val z k with ⟨h1, h2⟩ | ⟨d', u', h1, h2, _⟩ <;> rw [h1, h2] <;> rfl
  cases neg with
  | true =>
    refine wpAny_notIn_of (knd := mixKind X.prog X.w) (k := .inr z) (kV_is (k := .inr z) ry) hsys dd.mapOf ?_
    rw [hb]
    exact ⟨.bl _, H, I.tok _, rfl, q⟩
  | false =>
    refine wpAny_in_of (knd := mixKind X.prog X.w) (k := .inr z) (kV_is (k := .inr z) ry) hsys dd.mapOf ?_
    rw [hb]
    exact ⟨.bl _, H, I.tok _, rfl, q⟩
theorem kdin_read {neg : Bool} {a : Addr} {σ : L2.St} {H : Hp} {Q : VK} (h : tF XO (eKdin neg kvs f) σ H Q) : tOp (fun y c H Q => ∃ z, y = .str z ∧ c = .ref a ∧ Q (.bl (if neg then !((kvs.lookup z).isSome) else (kvs.lookup z).isSome)) H) (tF XO f) (tC (.ref a)) σ H Q := by
  obtain ⟨H₀, Hs, ρ, rr, g, e, kk⟩ := h
  refine tF_bind g e kk fun l x v H1 s1 g1 r1 e1 k1 => ?_
  split at e1
  · rename_i z
    exact ⟨z, r1, rfl, k1.give e1 (Same.refl _) rfl⟩
  · cases e1
theorem u_kdin (D : KDct X.K X.w.params X.mg x kvs) (h : PE X e (tF XO f)) (hg : Gl X x := by rfl) (hd : (x == ("__debug__" : Str)) = false := by decide) : PT X (.Compare e [.In] [.Name x p] pos) (tTest (tF XO (eKdin false kvs f))) := by
  obtain ⟨a, es, ep, hm, _⟩ := D.ex
  exact PT.imp (pt_cmpR (op_kdin false D hm) h (pe_glob (v := .ref a) hg hm rfl hd) rfl) fun _ _ _ h => kdin_read h
end
/-! ### the premises -/
def kvB (K : PySem.W.Frag) (d : PyData) (u : Value) : Bool := scB d u || match d, u with
  | .tuple ds, .ref b => (match K.lookup b with
    | some ⟨.type c, _, .seq its _, _⟩ => (c == "tuple") && decide (its.size ≤ 1000) && scAll ds its.toList
    | _ => false)
  | _, _ => false
theorem sc_st : ∀ {ds : List PyData} {us : List Value}, scAll ds us = true → stVs us = some (ds.map scV)
  | [], [], _ => rfl
  | d :: ds, u :: us, h => by
    simp only [scAll, Bool.and_eq_true] at h
    have e : stV u = some (scV d) := by
      have h1 := h.1
      unfold scB at h1
      split at h1
      · rename_i i j t
        have e : i = j := by simpa using h1
        rw [← e]; rfl
      · rename_i i j t
        have e : i = j := by simpa using h1
        rw [← e]; rfl
      · cases h1
    simp only [stVs, e, sc_st h.2, List.map_cons]
  | [], _ :: _, h => by cases h
  | _ :: _, [], h => by cases h
theorem kv_of {K : PySem.W.Frag} {d : PyData} {u : Value} (h : kvB K d u = true) : KVal K d u := by
  unfold kvB at h
  rw [Bool.or_eq_true] at h
  rcases h with h | h
  · exact .inl h
  · split at h
    · rename_i ds b
      split at h
      · rename_i c od its n sl hl
        simp only [Bool.and_eq_true, beq_iff_eq, decide_eq_true_eq] at h
        obtain ⟨⟨rfl, hz⟩, hs⟩ := h
        refine .inr ⟨ds, b, _, rfl, rfl, hl, ?_, (sc_all hs).2⟩
        unfold stO
        dsimp only
        rw [if_pos ⟨rfl, Nat.le_trans hz (by decide)⟩]
        exact sc_st hs
      · cases h
    · cases h
theorem kdct_mk {K : PySem.W.Frag} {P : Params} {mg : Str → Option Value} {h : Heap} {x : Str} {kvs : List (Str × PyData)} {a : Addr} {es : Array DictEntry} {ep : Nat} (X : K.In h) (G : h.Ns mainGlobals mg) (n : PySem.W.nsIn K mainGlobals x = some (some (.ref a)))
    (l : K.lookup a = some ⟨.type "dict", none, .dict es ep, #[]⟩) (hs : (a == sysModules) = false) (k : KEnt K P es.toList kvs) (nd : (kvs.map (·.1)).Nodup) : KDct K P mg x kvs := ⟨a, es, ep, PySem.W.mg_of X G n, hs, l, k, nd⟩
theorem ke_cons {K : PySem.W.Frag} {P : Params} {z : Str} {t : Tok} {u : Value} {d : PyData} {es : List DictEntry} {kvs : List (Str × PyData)} (h : kvB K d u = true) (r : KEnt K P es kvs) : KEnt K P (⟨PyData.keyHash P z, .str z t, u⟩ :: es) ((z, d) :: kvs) := .cons (kv_of h) r
end KT
set_option Elab.async false
set_option linter.all false
set_option maxRecDepth 100000
namespace KT
open PySem PySem.Spec PyProof.Rows L2
section
variable {X : Cx} {XO : XOF} {cv : Cfg} {pos : Pos} {H₀ F H : Hp} {ρ : Rho} {σ : L2.St}
/-- a list of one's own, or one that is lent, has changed -/
theorem SR.changeG {i : Nat} {t : Slot} {p : Addr} {o0 o1 : OwV} {O : Own} (g : SR cv H₀ F ρ σ H) (o : SO cv H₀ F ρ σ H O) (hρ : i < ρ.length) (hO : O p = some i) (hp : H p = some o0.ho) (ht : SS cv H₀ O σ[i]? i (upd H p o1.ho) t) :
    SR cv H₀ F (ρ.set i (some t)) σ (upd H p o1.ho) := by
  have hT : ∀ a xs, Rd H a (.tup xs) → Rd (upd H p o1.ho) a (.tup xs) := fun a xs e => rd_upd hp e
  have hL : ∀ {P : PP}, (∀ z a, P z a → O a = none) → ∀ a ws, Rl P H a ws → Rl P (upd H p o1.ho) a ws := fun {P} hP a ws rl => by
    have hne : ∀ z, P z a → a ≠ p := fun z q y => by have := hP z a q; rw [y, hO] at this; cases this
    rcases rl with ⟨q, e⟩ | ⟨q, u, e⟩
    · exact .inl ⟨q, by rw [upd_ne (hne _ q)]; exact e⟩
    · exact .inr ⟨q, u, by rw [upd_ne (hne _ q)]; exact e⟩
  refine ⟨g.s0, fun b u e => ?_, by simp [g.len], g.ln, O, o.fr, fun a j e => ?_, fun j t' e => ?_⟩
  · rw [upd_ne]
    · exact g.s1 b u e
    · intro z; subst z; rw [o.fr b i hO] at e; cases e
  · by_cases z : a = p
    · subst z; exact ⟨o1, upd_same⟩
    · rw [upd_ne z]; exact o.ls a j e
  · by_cases hij : i = j
    · subst hij
      rw [set_get _ _ _ _ hρ, if_pos rfl] at e
      cases e
      exact ht
    · rw [set_get _ _ _ _ hρ, if_neg hij] at e
      have q := o.sl j t' e
      cases t' with
      | par d => obtain ⟨w, e1, rr⟩ := q; exact ⟨w, e1, Rep.mono hT (hL fun _ _ x => x) d w rr⟩
      | loc d => obtain ⟨w, e1, rr⟩ := q; exact ⟨w, e1, Rep.mono hT (hL fun _ _ x => x.2.1) d w rr⟩
      | own ds =>
        obtain ⟨q1, ws, e1, hq, hqp, rs⟩ := q
        have hne : q1 ≠ p := fun z => by rw [z, hO] at hq; cases hq; exact hij rfl
        exact ⟨q1, ws, e1, hq, by rw [upd_ne hne]; exact hqp, Reps.mono hT (hL fun _ _ x => x.elim) _ _ rs⟩
      | own2 ds =>
        obtain ⟨q1, ws, e1, hq, hqp, rs⟩ := q
        have hne : q1 ≠ p := fun z => by rw [z, hO] at hq; cases hq; exact hij rfl
        exact ⟨q1, ws, e1, hq, by rw [upd_ne hne]; exact hqp, Reps.mono hT (hL fun _ _ x => x.2.1) _ _ rs⟩
      | lent ds =>
        obtain ⟨ws, e1, hq, hqp, rs⟩ := q
        have hne : cv.lend ≠ p := fun z => by rw [z, hO] at hq; cases hq; exact hij rfl
        exact ⟨ws, e1, hq, by rw [upd_ne hne]; exact hqp, Reps.mono hT (hL fun _ _ x => x.elim) _ _ rs⟩
      | dct ks =>
        obtain ⟨q1, e1, hq, hd⟩ := q
        have hne : q1 ≠ p := fun z => by rw [z, hO] at hq; cases hq; exact hij rfl
        exact ⟨q1, e1, hq, hd.upd hne⟩
      | ex c =>
        obtain ⟨w, e1, φ, hx, hφ⟩ := q
        have hne : w ≠ p := fun z => by rw [z, hp] at hx; cases o0 <;> cases hx
        exact ⟨w, e1, φ, by rw [upd_ne hne]; exact hx, hφ⟩
theorem SR.lentT {i : Nat} {ds : List PyData} (g : SR cv H₀ F ρ σ H) (hi : ρ[i]? = some (some (.lent ds))) : ∃ O vs, SO cv H₀ F ρ σ H O ∧ σ[i]? = some (some (.ref cv.lend)) ∧ O cv.lend = some i ∧ H cv.lend = some (.lst vs) ∧ Reps (fun _ _ => False) H ds vs := by
  obtain ⟨O, o⟩ := g.ex
  obtain ⟨vs, e, q, h, r⟩ := o.sl i _ hi
  exact ⟨O, vs, o, e, q, h, r⟩
theorem SR.changeT {i : Nat} {ds ds' : List PyData} {vs vs' : List V} {O : Own} (g : SR cv H₀ F ρ σ H) (o : SO cv H₀ F ρ σ H O) (hi : ρ[i]? = some (some (.lent ds))) (hσ : σ[i]? = some (some (.ref cv.lend))) (hO : O cv.lend = some i) (hp : H cv.lend = some (.lst vs)) (r : Reps (fun _ _ => False) H ds' vs') :
    SR cv H₀ F (ρ.set i (some (.lent ds'))) σ (upd H cv.lend (.lst vs')) :=
  g.changeG (o0 := .l vs) (o1 := .l vs') o (List.getElem?_eq_some_iff.mp hi).1 hO hp ⟨vs', hσ, hO, upd_same, Reps.mono (fun a xs e => rd_upd (o0 := .l vs) hp e) (fun a ws rl => by rcases rl with ⟨q, _⟩ | ⟨q, _⟩ <;> exact q.elim) _ _ r⟩
/-! ### x.append(e), y = x.pop(), x.pop(), of a list that is lent -/
theorem s_appendT (i : Nat) {e : Expr} {f : FE} {x : Str} {xp apos cpos : Pos} (h : PE X e (tF ⟨cv.cv, XO⟩ f)) (hN : X.N[i]? = some x := by rfl) (hv : Vis X.env.scope x := by first | exact Or.inl rfl | exact Or.inr (Or.inl rfl) | exact Or.inr (Or.inr rfl))
    (hd : (x == ("__debug__" : Str)) = false := by decide) (hcd : (x == ("__classdict__" : Str)) = false := by decide)
    (hbase : attributeBase (.Name x xp) "append" X.env (eval (.Name x xp) X.env) = eval (.Name x xp) X.env := by rfl)
    (hfew : ((backTo cpos (starEach [e] X.env)).all (fun x => !x.1) && (backToKw cpos (keywordEach [] X.env)).all (fun x => x.1.isSome)
      && decide ([e].length + ([] : List Keyword).length + (if ([] : List Keyword).isEmpty then 0 else 1) < 30)) = true := by rfl)
    (hline : (apos.endLine == cpos.line) = true := by rfl) (hs1 : starEach [e] X.env = (false, eval e X.env) :: starEach [] X.env := by rfl) (hplain : (backTo cpos (starEach [] X.env)).any (·.1) = false := by rfl)
    (hs : swapsWith (.Call (.Attribute (.Name x xp) "append" apos) [e] [] cpos) none pos.line X.env = pure false := by rfl) :
    PS X (.Expr (.Call (.Attribute (.Name x xp) "append" apos) [e] [] cpos) pos) (tS cv XO (sAppendT i f)) := by
  intro pins s σ H D I ⟨H₀, F, ρ, r, g, e', k⟩
  refine ps_expr (pe_bm PySem.F.plainAttrs_list PySem.F.slot_list_append PySem.F.type_list_append mt_append (pe_var (i := i) hN hv hd hcd) (pa_cons h pa_nil hs1) hbase hfew hline hs1 hplain) hs pins s σ H D I ?_
  unfold sAppendT at e'
  split at e'
  · rename_i xs hρ
    obtain ⟨O, vs, o, hσ, hO, hp, rs⟩ := g.lentT hρ
    refine ⟨.ref cv.lend, hσ, .inl ⟨rfl, vs, SqL.of hp⟩, ?_⟩
    refine tS_bind g e' k fun l d v H1 s1 r1 e1 => ?_
    split at e1
    · rename_i hc
      cases e1
      rw [Bool.and_eq_true] at hc
      have hlen : xs.length < big := of_decide_eq_true hc.2
      refine ⟨cv.lend, vs, v, rfl, rfl, s1 _ _ hp, by rw [rs.length]; exact Nat.lt_of_lt_of_le hlen big_le, ?_⟩
      have o1 : SO cv H₀ F ρ σ H1 O := ⟨o.fr, fun a i e => let ⟨vs, q⟩ := o.ls a i e; ⟨vs, s1 _ _ q⟩, fun i t e => (o.sl i t e).same s1⟩
      exact k _ _ ((g.same s1).changeT o1 hρ hσ hO (s1 _ _ hp) ((rs.same s1).append (Reps.one (r1.nl hc.1))))
    · cases e1
  · cases e'
theorem dropLast_rep {P : PP} {H : Hp} {xs : List PyData} {vs : List V} (rs : Reps P H xs vs) : Reps P H xs.dropLast vs.dropLast := by
  rw [List.dropLast_eq_take, List.dropLast_eq_take, rs.length]
  exact rs.take _
theorem s_popT (j i : Nat) {x y : Str} {xp yp apos cpos : Pos} (hnd : X.N.Nodup) (hN : X.N[i]? = some x := by rfl) (hv : Vis X.env.scope x := by first | exact Or.inl rfl | exact Or.inr (Or.inl rfl) | exact Or.inr (Or.inr rfl))
    (hd : (x == ("__debug__" : Str)) = false := by decide) (hcd : (x == ("__classdict__" : Str)) = false := by decide) (hj : X.N[j]? = some y := by rfl) (hy : Loc X.env.scope y := by first | exact Or.inl rfl | exact Or.inr rfl)
    (hbase : attributeBase (.Name x xp) "pop" X.env (eval (.Name x xp) X.env) = eval (.Name x xp) X.env := by rfl) (hline : (apos.endLine == cpos.line) = true := by rfl)
    (hs : swapsWith (.Call (.Attribute (.Name x xp) "pop" apos) [] [] cpos) (some (.Name y yp)) pos.line X.env = pure false := by rfl) (hf : X.fn y = true ∨ X.env.scope.names.lookup y = some .local := by first | exact .inl rfl | exact .inr rfl | assumption)
    (hjn : Nat.blt j cv.n = true := by rfl) : PS X (.Assign [.Name y yp] (.Call (.Attribute (.Name x xp) "pop" apos) [] [] cpos) pos) (tS cv XO (sPopT j i)) := by
  intro pins s σ H D I ⟨H₀, F, ρ, r, g, e', k⟩
  refine ps_set hnd hj hy (pe_bm0 PySem.F.plainAttrs_list PySem.F.slot_list_pop PySem.F.type_list_pop mt_pop (pe_var (i := i) hN hv hd hcd) hbase hline) hs hf pins s σ H D I ?_
  unfold sPopT at e'
  split at e'
  · rename_i xs hρ
    obtain ⟨O, vs, o, hσ, hO, hp, rs⟩ := g.lentT hρ
    split at e'
    · rename_i d hd'
      split at e'
      · cases e'
      · rename_i hij
        cases e'
        obtain ⟨v, hv', rv⟩ := rs.get hd'
        refine ⟨.ref cv.lend, hσ, .inl ⟨rfl, vs, SqL.of hp⟩, cv.lend, vs, v, rfl, rfl, hp, by rw [rs.length]; exact hv', ?_⟩
        have g2 := g.changeT o hρ hσ hO hp (dropLast_rep rs)
        refine k _ _ (g2.putLoc hjn ?_)
        exact Rep.mono (fun a ws e => rd_upd (o0 := .l vs) hp e) (fun a ws rl => by rcases rl with ⟨q, _⟩ | ⟨q, _⟩ <;> exact q.elim) d v rv
    · cases e'
  · cases e'
theorem s_popTX (i : Nat) {x : Str} {xp apos cpos : Pos} (hN : X.N[i]? = some x := by rfl) (hv : Vis X.env.scope x := by first | exact Or.inl rfl | exact Or.inr (Or.inl rfl) | exact Or.inr (Or.inr rfl))
    (hd : (x == ("__debug__" : Str)) = false := by decide) (hcd : (x == ("__classdict__" : Str)) = false := by decide)
    (hbase : attributeBase (.Name x xp) "pop" X.env (eval (.Name x xp) X.env) = eval (.Name x xp) X.env := by rfl) (hline : (apos.endLine == cpos.line) = true := by rfl)
    (hs : swapsWith (.Call (.Attribute (.Name x xp) "pop" apos) [] [] cpos) none pos.line X.env = pure false := by rfl) : PS X (.Expr (.Call (.Attribute (.Name x xp) "pop" apos) [] [] cpos) pos) (tS cv XO (sPopTX i)) := by
  intro pins s σ H D I ⟨H₀, F, ρ, r, g, e', k⟩
  refine ps_expr (pe_bm0 PySem.F.plainAttrs_list PySem.F.slot_list_pop PySem.F.type_list_pop mt_pop (pe_var (i := i) hN hv hd hcd) hbase hline) hs pins s σ H D I ?_
  unfold sPopTX at e'
  split at e'
  · rename_i xs hρ
    obtain ⟨O, vs, o, hσ, hO, hp, rs⟩ := g.lentT hρ
    split at e'
    · rename_i d hd'
      cases e'
      obtain ⟨v, hv', rv⟩ := rs.get hd'
      exact ⟨.ref cv.lend, hσ, .inl ⟨rfl, vs, SqL.of hp⟩, cv.lend, vs, v, rfl, rfl, hp, by rw [rs.length]; exact hv', k _ _ (g.changeT o hρ hσ hO hp (dropLast_rep rs))⟩
    · cases e'
  · cases e'
end
/-! ### a def that is lent a list -/
def drp (H : Hp) (p : Addr) : Hp := fun a => if a = p then none else H a
theorem drp_same (H : Hp) (p : Addr) : Same (drp H p) H := fun b u e => by
  unfold drp at e
  split at e
  · cases e
  · exact e
def spL (cv : Nat → Value) (g : FL) : Sp := fun vs H Q E => ∃ p xs ds oc ds', vs = [.ref p] ∧ H p = some (.lst xs) ∧ Reps (fun _ _ => False) H ds xs ∧ g ds = some (oc, ds') ∧
  (oc = none → ∀ H' xs', Same (drp H p) H' → H' p = some (.lst xs') → Reps (fun _ _ => False) H' ds' xs' → Q .non H') ∧ ∀ c, oc = some c → ∀ H' xs', Same (drp H p) H' → H' p = some (.lst xs') → Reps (fun _ _ => False) H' ds' xs' → E (cv c) none H'
theorem lent_sr {cv : Nat → Value} {N : List Str} {p : Addr} {xs : List V} {ds : List PyData} {H : Hp} (hn : 1 ≤ N.length) (hp : H p = some (.lst xs)) (r : Reps (fun _ _ => False) H ds xs) :
    SR ⟨cv, N.length, p⟩ (drp H p) (drp H p) (some (.lent ds) :: List.replicate (N.length - 1) none) (L2.start N [.ref p]) H := by
  refine ⟨Same.refl _, drp_same H p, ?_, ?_, fun a => if a = p then some 0 else none, fun a i e => ?_, fun a i e => ?_, fun i t e => ?_⟩
  · simp; omega
  · unfold L2.start; simp; omega
  · by_cases z : a = p
    · unfold drp; rw [if_pos z]
    · rw [if_neg z] at e; cases e
  · by_cases z : a = p
    · subst z; exact ⟨.l xs, hp⟩
    · rw [if_neg z] at e; cases e
  · cases i with
    | zero =>
      cases e
      exact ⟨xs, by unfold L2.start; simp, if_pos rfl, hp, r⟩
    | succ i =>
      rw [List.getElem?_cons_succ, List.getElem?_replicate] at e
      split at e <;> cases e
theorem fun_okL {P : Program} {w : World} {K : PySem.W.Frag} {mg : Str → Option Value} {base : Heap} {cv : Nat → Value} {x qual : Str} {st : Stmt} {f : Addr} {fd : FuncData} {N : List Str} {y : Str} {k : Nat} {b : FS} (M : MF mg) (F : Fun K x qual st f fd) (S : FnScope N [y] (defScope st))
    (hbody : ∀ (lend : Addr) (cdv : Value) (A : Around) (outer : List Env) (s : Shared) (H : Hp) (E : XK), Body P w cv k (cxOf (CX1 P w) P w K mg base N qual (defScope st) f cdv A outer s H E) (fun c _ H' => E (cv c) none H') →
      PSs (cxOf (CX1 P w) P w K mg base N qual (defScope st) f cdv A outer s H E) (defBody st) (tS ⟨cv, N.length, lend⟩ (fun c _ H' => E (cv c) none H') b)) :
    FnOk P w K mg base (CX1 P w) (k + 1) f fd [y] (spL cv (runL N.length b)) := by
  obtain ⟨oc, od, kV, doc, pm, an, cdv, ct, osl, rfl, lk, hcd⟩ := F.ex
  refine fn_of lk hcd S (fun vs H Q E h => ?_) fun A outer s H vs Q E hr hsp => ?_
  · obtain ⟨p, xs, ds, o, ds', rfl, _⟩ := h
    rfl
  obtain ⟨p, xs, ds, o, ds', rfl, hp, rp, hg, hok, hex⟩ := hsp
  refine ⟨tS ⟨cv, N.length, p⟩ (fun c _ H' => E (cv c) none H') b, hbody p cdv A outer s H E ⟨⟨hr.units, M.mlen, M.mint, M.mbool, M.mstr, M.mtuple, M.mlist, M.misi, M.mrange, M.menum, M.mzip, M.mrev⟩, hr, xlink_cx, rlink_cx, PassesOwn.leaving, rfl, S.nd⟩, ?_⟩
  have hn : 1 ≤ N.length := by
    have := congrArg List.length S.pre
    rw [List.length_take] at this
    simp at this
    omega
  have g := lent_sr (cv := cv) hn hp rp
  have fin : ∀ {ρ' : Rho} {ds' : List PyData} {σ' : L2.St} {H' : Hp}, lentOf ρ' = some ds' → SR ⟨cv, N.length, p⟩ (drp H p) (drp H p) ρ' σ' H' → Same (drp H p) H' ∧ ∃ xs', H' p = some (.lst xs') ∧ Reps (fun _ _ => False) H' ds' xs' := fun {ρ' ds' σ' H'} hl g' => by
    unfold lentOf at hl
    split at hl
    · rename_i ds2 hρ
      cases hl
      obtain ⟨O, vs, o, _, _, h1, h2⟩ := g'.lentT hρ
      exact ⟨g'.s1, vs, h1, h2⟩
    · cases hl
  unfold runL at hg
  cases hb : b (some (.lent ds) :: List.replicate (N.length - 1) none) with
  | none => rw [hb] at hg; cases hg
  | some y =>
    rw [hb] at hg
    refine ⟨drp H p, drp H p, _, y, g, hb, ?_⟩
    cases y with
    | ret d => cases hg
    | next ρ' =>
      dsimp only at hg
      cases hl : lentOf ρ' with
      | none => rw [hl] at hg; cases hg
      | some ds2 =>
        rw [hl] at hg
        cases hg
        intro σ' H' g'
        obtain ⟨s1, xs', h1, h2⟩ := fin hl g'
        exact hok rfl H' xs' s1 h1 h2
    | exc c ρ' =>
      dsimp only at hg
      cases hl : lentOf ρ' with
      | none => rw [hl] at hg; cases hg
      | some ds2 =>
        rw [hl] at hg
        cases hg
        intro σ' H' g'
        obtain ⟨s1, xs', h1, h2⟩ := fin hl g'
        exact hex c rfl H' xs' s1 h1 h2
    | brk ρ' => cases hg
    | cont ρ' => cases hg
structure FnL (CX : CXT) (P : Program) (w : World) (K : PySem.W.Frag) (mg : Str → Option Value) (base : Heap) (cv : Nat → Value) (n : Nat) (x : Str) (g : FL) : Prop where
  ex : ∃ f fd ps, FnOk P w K mg base CX n f fd ps (spL cv g) ∧ mg x = some (.ref f) ∧ PySem.W.keepIn K (.ref f) = true ∧ Binds K fd ps []
theorem fnL0 {P : Program} {w : World} {K : PySem.W.Frag} {mg : Str → Option Value} {base : Heap} {cv : Nat → Value} {CX : CXT} {x : Str} {st : Stmt} {ps : List Str} (F : FunT K mg x st ps) : FnL CX P w K mg base cv 0 x (fun _ => none) := by
  obtain ⟨f, fd, F, hm, hb, _⟩ := F.ex
  have no : ∀ vs H Q E, ¬ spL cv (fun _ => none) vs H Q E := fun vs H Q E h => by
    obtain ⟨p, xs, ds, oc, ds', _, _, _, z, _⟩ := h
    cases z
  exact ⟨f, fd, ps, ⟨fun vs H Q E h => absurd h (no vs H Q E), fun A outer s H args us vs Q E _ _ _ _ h => absurd h (no vs H Q E)⟩, hm, F.kp, hb⟩
theorem fnLS {P : Program} {w : World} {K : PySem.W.Frag} {mg : Str → Option Value} {base : Heap} {cv : Nat → Value} {CX : CXT} {n : Nat} {x : Str} {st : Stmt} {ps : List Str} {g : FL} (F : FunT K mg x st ps) (ok : ∀ f fd, Fun K x x st f fd → FnOk P w K mg base CX n f fd ps (spL cv g)) : FnL CX P w K mg base cv n x g := by
  obtain ⟨f, fd, F, hm, hb, _⟩ := F.ex
  exact ⟨f, fd, ps, ok f fd F, hm, F.kp, hb⟩
section
variable {X : Cx} {XO : XOF} {cv : Cfg} {CX : CXT} {pos p xp cpos : Pos} {n : Nat} {x y : Str} {g : FL}
/-- f(x), x a list of one's own that is lent -/
theorem s_callL (i : Nat) (F : FnL CX X.prog X.w X.K X.mg X.base cv.cv n x g) (hr : Room n X.A) (L : XLink CX X ⟨cv.cv, XO⟩) (hN : X.N[i]? = some y := by rfl) (hv : Vis X.env.scope y := by first | exact Or.inl rfl | exact Or.inr (Or.inl rfl) | exact Or.inr (Or.inr rfl))
    (hd : (y == ("__debug__" : Str)) = false := by decide) (hcd : (y == ("__classdict__" : Str)) = false := by decide) (hg : Gl X x := by rfl) (hdb : (x == ("__debug__" : Str)) = false := by decide)
    (he : starEach [.Name y xp] X.env = (false, eval (.Name y xp) X.env) :: starEach [] X.env := by exact star_cons rfl) (hpl : (backTo cpos (starEach [] X.env)).any (·.1) = false := by exact star_any rfl)
    (hs : swapsWith (.Call (.Name x p) [.Name y xp] [] cpos) none pos.line X.env = pure false := by rfl) : PS X (.Expr (.Call (.Name x p) [.Name y xp] [] cpos) pos) (tS cv XO (sCallL g i)) := by
  obtain ⟨f, fd, ps, F, hm, hk, hb⟩ := F.ex
  have pe : PE X (.Call (.Name x p) [.Name y xp] [] cpos) (fun σ H Q => ∃ v, σ[i]? = some (some v) ∧ spL cv.cv g [v] H Q (fun cls _ H' => ∃ c, cls = cv.cv c ∧ XO c σ H')) := by
    intro pins s σ H Q I h
    obtain ⟨v, hσ, hA⟩ := h
    refine wpAny_Call_Name_kw (ld_glob I hg hm ?_ hdb)
    refine PySem.W.callWith_K (h₀ := X.base) I.ok.mod.kin hk (thn ((pa_cons (pe_var (i := i) hN hv hd hcd) pa_nil he) cpos pins s σ H (fun vs H1 => spL cv.cv g vs H1 Q (fun cls _ H' => ∃ c, cls = cv.cv c ∧ XO c σ H')) I ⟨v, hσ, hA⟩) fun us s1 ⟨vs, H1, I1, r, q⟩ => ⟨I1.kIn, ?_⟩) he hpl
    have hl : (us ++ []).length = ps.length := by rw [List.append_nil, ← r.length]; exact F.len _ _ _ _ q
    have hB := hb s1 us I1.kIn hl
    rw [List.append_nil] at hB
    refine wpAny_call (codeAny_mono (F.run X.A X.stack s1 H1 ⟨us, []⟩ us vs Q _ hr I1.env0 hB r q) fun r s' hq => ?_)
    cases r with
    | error e => exact L pins σ H1 s1 e s' I1 hq
    | ok fl =>
      cases fl with
      | ret u => exact I1.after hq
      | next => exact False.elim hq
      | brk => exact False.elim hq
      | cont => exact False.elim hq
  refine PS.imp (ps_expr pe hs) fun D σ H ⟨H₀, F', ρ, r, gg, e, k⟩ => ?_
  unfold sCallL at e
  split at e
  case h_2 => cases e
  rename_i ds hρ
  obtain ⟨O, q, vs, o, hσ, hO, hp, rs⟩ := gg.own hρ
  have fin : ∀ {H' : Hp} {xs' : List V} {ds' : List PyData}, Same (drp H q) H' → H' q = some (.lst xs') → Reps (fun _ _ => False) H' ds' xs' → SR cv H₀ F' (ρ.set i (some (.own ds'))) σ H' := fun {H' xs' ds'} sm hq r' => by
    have sm' : ∀ b u, b ≠ q → H b = some u → H' b = some u := fun b u n z => sm b u (by unfold drp; rw [if_neg n]; exact z)
    have hρl := (List.getElem?_eq_some_iff.mp hρ).1
    have hT : ∀ a xs, Rd H a (.tup xs) → Rd H' a (.tup xs) := fun a xs h => by
      have hne : a ≠ q := by
        intro z; subst z
        rcases h with h | ⟨_, h⟩ <;> (rw [hp] at h; cases h)
      rcases h with h | ⟨u, h⟩
      · exact .inl (sm' _ _ hne h)
      · exact .inr ⟨u, sm' _ _ hne h⟩
    have hL : ∀ {P : PP}, (∀ z a, P z a → O a = none) → ∀ a ws, Rl P H a ws → Rl P H' a ws := fun {P} hP a ws rl => by
      have hne : ∀ z, P z a → a ≠ q := fun z w y => by have := hP z a w; rw [y, hO] at this; cases this
      rcases rl with ⟨w, e⟩ | ⟨w, u, e⟩
      · exact .inl ⟨w, sm' _ _ (hne _ w) e⟩
      · exact .inr ⟨w, u, sm' _ _ (hne _ w) e⟩
    refine ⟨gg.s0, fun b u e => ?_, by simp [gg.len], gg.ln, O, o.fr, fun a j e => ?_, fun j t' e => ?_⟩
    · refine sm' b u (fun z => ?_) (gg.s1 b u e)
      subst z; rw [o.fr b i hO] at e; cases e
    · by_cases z : a = q
      · subst z; exact ⟨.l xs', hq⟩
      · obtain ⟨w, z2⟩ := o.ls a j e; exact ⟨w, sm' _ _ z z2⟩
    · by_cases hij : i = j
      · subst hij
        rw [set_get _ _ _ _ hρl, if_pos rfl] at e
        cases e
        exact ⟨q, xs', hσ, hO, hq, r'⟩
      · rw [set_get _ _ _ _ hρl, if_neg hij] at e
        have w := o.sl j t' e
        cases t' with
        | par d => obtain ⟨w, e1, rr⟩ := w; exact ⟨w, e1, Rep.mono hT (hL fun _ _ x => x) d w rr⟩
        | loc d => obtain ⟨w, e1, rr⟩ := w; exact ⟨w, e1, Rep.mono hT (hL fun _ _ x => x.2.1) d w rr⟩
        | own ds =>
          obtain ⟨q1, ws, e1, hw, hqp, rs⟩ := w
          have hne : q1 ≠ q := fun z => by rw [z, hO] at hw; cases hw; exact hij rfl
          exact ⟨q1, ws, e1, hw, sm' _ _ hne hqp, Reps.mono hT (hL fun _ _ x => x.elim) _ _ rs⟩
        | own2 ds =>
          obtain ⟨q1, ws, e1, hw, hqp, rs⟩ := w
          have hne : q1 ≠ q := fun z => by rw [z, hO] at hw; cases hw; exact hij rfl
          exact ⟨q1, ws, e1, hw, sm' _ _ hne hqp, Reps.mono hT (hL fun _ _ x => x.2.1) _ _ rs⟩
        | lent ds =>
          obtain ⟨ws, e1, hw, hqp, rs⟩ := w
          have hne : cv.lend ≠ q := fun z => by rw [z, hO] at hw; cases hw; exact hij rfl
          exact ⟨ws, e1, hw, sm' _ _ hne hqp, Reps.mono hT (hL fun _ _ x => x.elim) _ _ rs⟩
        | dct ks =>
          obtain ⟨q1, e1, hw, hd⟩ := w
          have hne : q1 ≠ q := fun z => by rw [z, hO] at hw; cases hw; exact hij rfl
          refine ⟨q1, e1, hw, ?_⟩
          rcases hd with ⟨is, e, h⟩ | ⟨n, h⟩
          · exact .inl ⟨is, e, sm' _ _ hne h⟩
          · exact .inr ⟨n, sm' _ _ hne h⟩
        | ex c =>
          obtain ⟨w, e1, φ, hx, hφ⟩ := w
          have hne : w ≠ q := fun z => by rw [z, hp] at hx; cases hx
          exact ⟨w, e1, φ, sm' _ _ hne hx, hφ⟩
  split at e
  · rename_i ds' hgd
    cases e
    exact ⟨.ref q, hσ, q, vs, ds, none, ds', rfl, hp, rs, hgd, fun _ H' xs' sm hq r' => k _ _ (fin sm hq r'), fun c z => (nomatch z)⟩
  · rename_i c ds' hgd
    cases e
    exact ⟨.ref q, hσ, q, vs, ds, some c, ds', rfl, hp, rs, hgd, fun z => (nomatch z), fun c' z H' xs' sm hq r' => by cases z; exact ⟨c, rfl, k _ _ (fin sm hq r')⟩⟩
  · cases e
end
end KT
namespace KT
open PySem L2
end KT
set_option Elab.async false
set_option linter.all false
set_option maxRecDepth 100000
namespace KT
open PySem PySem.Spec PyProof.Rows L2
/-! ### text[lo:hi] -/
theorem picks_list {α : Type} (L : List α) : ∀ (m A : Nat), (List.range m).filterMap (fun k => L[A + k]?) = (L.drop A).take m
  | 0, A => by simp
  | m + 1, A => by
    rw [List.range_succ_eq_map, List.filterMap_cons, List.filterMap_map]
    have e : (List.range m).filterMap ((fun k => L[A + k]?) ∘ Nat.succ) = (L.drop (A + 1)).take m := by
      rw [← picks_list L m (A + 1)]
      congr 1
      funext k
      show L[A + (k + 1)]? = L[A + 1 + k]?
      congr 1
      omega
    rw [e]
    by_cases h : A < L.length
    · rw [List.drop_eq_getElem_cons h, List.take_succ_cons]
      simp [h]
    · rw [List.drop_eq_nil_of_le (by omega), List.drop_eq_nil_of_le (by omega)]
      have : L[A + 0]? = none := List.getElem?_eq_none (by omega)
      rw [this]
      simp
theorem slice_ix (n : Nat) (lo hi : Option Int) : Builtin.Str.strSliceIndices lo hi 1 n = (List.range (sxP n n hi - sxP n 0 lo)).map fun k => sxP n 0 lo + k := by
  have key : ∀ (a b : Nat) (a' b' : Int), a' = a → b' = b → sliceRange a' b' 1 = (List.range (b - a)).map fun k => a + k := fun a b a' b' ha hb => by
    subst ha hb
    unfold sliceRange
    simp only [show (1 : Int) > 0 by decide, if_true]
    have e : (if (a : Int) < b then ((b : Int) - a + 1 - 1) / 1 else 0).toNat = b - a := by
      split
      · rw [Int.ediv_one]; omega
      · omega
    rw [e]
    apply List.map_congr_left
    intro k _
    omega
  unfold Builtin.Str.strSliceIndices
  simp only [show (1 : Int) > 0 by decide, if_true]
  refine key _ _ _ _ ?_ ?_
  · cases lo with
    | none => rfl
    | some v =>
      simp only [sxP]
      split <;> omega
  · cases hi with
    | none => rfl
    | some v =>
      simp only [sxP]
      split <;> omega
theorem sxP_le (n : Nat) (hi : Option Int) : sxP n n hi ≤ n := by
  cases hi with
  | none => exact Nat.le_refl _
  | some v =>
    simp only [sxP]
    split <;> omega
theorem slice_cut (z : Str) (lo hi : Option Int) : Txt.slice z lo hi = ⟨(cutP z.cps.toList lo hi).toArray⟩ := by
  have hn : z.cps.toList.length = z.length := by simp [Str.length]
  have hle := sxP_le z.length hi
  unfold Txt.slice
  rw [slice_ix]
  by_cases h : ((1 : Int) == 1 && ((List.range (sxP z.length z.length hi - sxP z.length 0 lo)).map fun k => sxP z.length 0 lo + k).length == z.length) = true
  · rw [if_pos h]
    simp only [List.length_map, List.length_range, Bool.and_eq_true, beq_iff_eq] at h
    have h0 : z.length = 0 ∨ sxP z.length 0 lo = 0 := by omega
    unfold cutP
    rw [hn, h.2]
    have hd : (z.cps.toList.drop (sxP z.length 0 lo)).take z.length = z.cps.toList := by
      rcases h0 with h0 | h0
      · have : z.cps.toList = [] := List.length_eq_zero_iff.mp (by rw [hn]; exact h0)
        rw [this]; simp
      · rw [h0, List.drop_zero]
        exact List.take_of_length_le (by rw [hn]; exact Nat.le_refl _)
    rw [hd]
  · rw [if_neg h]
    have e : ((List.range (sxP z.length z.length hi - sxP z.length 0 lo)).map fun k => sxP z.length 0 lo + k).filterMap (z.cps[·]?) = cutP z.cps.toList lo hi := by
      rw [List.filterMap_map]
      unfold cutP
      rw [hn, ← picks_list]
      congr 1
      funext k
      show z.cps[_]? = z.cps.toList[_]?
      rw [Array.getElem?_toList]
    rw [e]
section
variable {X : Cx} {XO : XOT} {a : Expr} {fa : FE} {pos : Pos}
def rSlS : V → Option Int → Option Int → Hp → VK → Prop := fun x lo hi H Q => ∃ z, x = .str z ∧ z.length ≤ big ∧ Q (.str ⟨(cutP z.cps.toList lo hi).toArray⟩) H
theorem sl_str : SlR X rSlS := by
  intro pins s σ H x v vl vu lo hi sl Q I rx hs pl pu h
  obtain ⟨z, rfl, hz, q⟩ := h
  obtain ⟨t, rfl⟩ := (show ∃ t, v = Value.str z t from rx)
  refine ⟨"str", _, PySem.F.slot_str_getitem.lookup, typeIs_str _ _ _, ?_⟩
  rw [← slice_cut] at q
  have fin : ∀ t' k, EP X pins σ Q (.str (Txt.slice z lo hi) t') { s with toks := k } := fun t' k => ⟨.str _, H, I.tok _, ⟨t', rfl⟩, q⟩
  have hl : (Txt.slice z lo hi).length ≤ sizeLine := Nat.le_trans (Txt.slice_le z lo hi) (le_big hz)
  cases pl with
  | none =>
    cases pu with
    | none => exact wpAny_getItem_str_slice (l := none) (u := none) (st := none) hs rfl (post_val_or_str ⟨hl, fin⟩)
    | int j tj => exact wpAny_getItem_str_slice (l := none) (u := some (j, tj)) (st := none) hs rfl (post_val_or_str ⟨hl, fin⟩)
  | int i ti =>
    cases pu with
    | none => exact wpAny_getItem_str_slice (l := some (i, ti)) (u := none) (st := none) hs rfl (post_val_or_str ⟨hl, fin⟩)
    | int j tj => exact wpAny_getItem_str_slice (l := some (i, ti)) (u := some (j, tj)) (st := none) hs rfl (post_val_or_str ⟨hl, fin⟩)
theorem x_slS {lo hi : Option Expr} {flo fhi : FO} {p2 : Pos} (ha : PE X a (tF XO fa)) (hl : PO X lo (tO XO flo)) (hh : PO X hi (tO XO fhi)) : PE X (.Subscript a (.Slice lo hi none p2) pos) (tF XO (eSlS fa flo fhi)) :=
  PE.imp (pe_slice sl_str ha hl hh) fun σ H Q ⟨H₀, Hs, ρ, rr, g, e, kk⟩ => by
    refine tF_bind g e kk fun l x v H1 s1 g1 r1 e1 k1 => ?_
    cases hlo : flo ρ with
    | none => rw [hlo] at e1; cases e1
    | some ro =>
      rw [hlo] at e1
      refine ⟨H₀, Hs, ρ, ro, g1, hlo, fun i H2 er s2 => ?_, fun c H2 er s2 => ?_⟩
      · subst er
        dsimp only at e1
        have g2 := g1.same s2
        cases hhi : fhi ρ with
        | none => rw [hhi] at e1; cases e1
        | some rh =>
          rw [hhi] at e1
          refine ⟨H₀, Hs, ρ, rh, g2, hhi, fun j H3 er s3 => ?_, fun c H3 er s3 => ?_⟩
          · subst er
            dsimp only at e1
            unfold dSlS at e1
            split at e1
            · rename_i z
              split at e1
              · rename_i hz
                exact ⟨z, r1, hz, k1.give e1 (s2.trans s3) rfl⟩
              · cases e1
            · cases e1
          · subst er
            cases e1
            exact k1.2 c H3 rfl (s2.trans s3)
      · subst er
        cases e1
        exact k1.2 c H2 rfl s2
/-! ### "abcd".index(x) -/
theorem occ_abcd : ∀ {z : Str} {i : Int}, abT.lookup z = some i → ∃ (j : Nat) (rest : List Nat), i = j ∧ Builtin.Str.occurrences "abcd" z 0 ("abcd" : Str).length 1 = j :: rest := fun {z i} h => by
  have h1 : Builtin.Str.occurrences "abcd" "a" 0 ("abcd" : Str).length 1 = [0] := by decide +kernel
  have h2 : Builtin.Str.occurrences "abcd" "b" 0 ("abcd" : Str).length 1 = [1] := by decide +kernel
  have h3 : Builtin.Str.occurrences "abcd" "c" 0 ("abcd" : Str).length 1 = [2] := by decide +kernel
  have h4 : Builtin.Str.occurrences "abcd" "d" 0 ("abcd" : Str).length 1 = [3] := by decide +kernel
  unfold abT at h
  simp only [List.lookup_cons, List.lookup_nil] at h
  split at h
  · rename_i e; cases h; have e' : z = "a" := by simpa using e
    subst e'; exact ⟨0, [], rfl, h1⟩
  · split at h
    · rename_i e; cases h; have e' : z = "b" := by simpa using e
      subst e'; exact ⟨1, [], rfl, h2⟩
    · split at h
      · rename_i e; cases h; have e' : z = "c" := by simpa using e
        subst e'; exact ⟨2, [], rfl, h3⟩
      · split at h
        · rename_i e; cases h; have e' : z = "d" := by simpa using e
          subst e'; exact ⟨3, [], rfl, h4⟩
        · cases h
def rAb : V → List V → Hp → VK → Prop := fun x xs H Q => ∃ z i, x = .str "abcd" ∧ xs = [.str z] ∧ abT.lookup z = some i ∧ Q (.int i) H
theorem mt_index : MtR X "str.index" rAb := by
  intro pins s σ H x xs v us Q I rx rv h
  obtain ⟨z, i, rfl, rfl, hz, q⟩ := h
  obtain ⟨t, rfl⟩ := (show ∃ t, v = Value.str "abcd" t from rx)
  obtain ⟨u, rfl, ru⟩ := rv.one
  obtain ⟨t2, rfl⟩ := (show ∃ t, u = Value.str z t from ru)
  obtain ⟨j, rest, rfl, ho⟩ := occ_abcd hz
  exact call_gives PySem.F.slot_str_index (typeIs_str _ _ _) PySem.F.entry_str_index (PySem.F.args_str_index_2 _ _) (gives_str_index "abcd" z t t2 j rest ho) ⟨.int j, H, I.tok _, ⟨_, rfl⟩, q⟩
theorem x_abcd {e : Expr} {f : FE} {j : Nat} {p1 apos cpos : Pos} (h : PE X e (tF XO f))
    (hbase : attributeBase (.Constant (.str "abcd") j p1) "index" X.env (eval (.Constant (.str "abcd") j p1) X.env) = eval (.Constant (.str "abcd") j p1) X.env := by rfl)
    (hfew : ((backTo cpos (starEach [e] X.env)).all (fun x => !x.1) && (backToKw cpos (keywordEach [] X.env)).all (fun x => x.1.isSome)
      && decide ([e].length + ([] : List Keyword).length + (if ([] : List Keyword).isEmpty then 0 else 1) < 30)) = true := by rfl)
    (hline : (apos.endLine == cpos.line) = true := by rfl) (hs1 : starEach [e] X.env = (false, eval e X.env) :: starEach [] X.env := by rfl) (hplain : (backTo cpos (starEach [] X.env)).any (·.1) = false := by rfl) :
    PE X (.Call (.Attribute (.Constant (.str "abcd") j p1) "index" apos) [e] [] cpos) (tF XO (eAbcd f)) :=
  PE.imp (pe_bm PySem.F.plainAttrs_str PySem.F.slot_str_index PySem.F.type_str_index mt_index pe_str (pa_cons h pa_nil hs1) hbase hfew hline hs1 hplain) fun σ H Q ⟨H₀, Hs, ρ, rr, g, ee, kk⟩ => by
    refine ⟨rfl, tF_bind g ee kk fun l x v H1 s1 g1 r1 e1 k1 => ?_⟩
    split at e1
    · rename_i z
      cases hz : abT.lookup z with
      | none => rw [hz] at e1; cases e1
      | some i =>
        rw [hz] at e1
        cases (show v = .str z from r1)
        exact ⟨z, i, rfl, rfl, hz, k1.give e1 (Same.refl _) rfl⟩
    · cases e1
end
end KT
namespace KT
open PySem PySem.Spec PyProof.Rows L2
/-! ### for i in range(a, b) -/
section
variable {X : Cx} {XO : XOT} {tg e e2 : Expr} {f f2 : FE} {pos p : Pos}
theorem yields_from {Z : Hp} {a : Int} {n : Nat} : Yields Z (L2.Itr a n) ((List.range n).map fun (k : Nat) => .int (a + (k : Int))) := fun H2 s i => by
  refine ⟨fun d hd => ?_, fun hi => ?_⟩
  · rw [List.getElem?_map] at hd
    cases hr : (List.range n)[i]? with
    | none => rw [hr] at hd; cases hd
    | some k =>
      rw [hr] at hd
      cases hd
      obtain ⟨hlt, hk⟩ := List.getElem?_eq_some_iff.mp hr
      rw [List.length_range] at hlt
      rw [List.getElem_range] at hk
      subst hk
      refine ⟨hlt, fun x H3 y => ?_⟩
      obtain ⟨e, y⟩ := y
      subst e y
      exact ⟨Same.refl _, rfl⟩
  · show n ≤ i
    rw [hi]
    simp
theorem i_r2 (C : BC X) (h : PE X e (tF XO f)) (h2 : PE X e2 (tF XO f2)) (hg : Gl X "range" := by rfl) (hs : starEach [e, e2] X.env = [(false, eval e X.env), (false, eval e2 X.env)] := by rfl) (hs2 : starEach [e2] X.env = [(false, eval e2 X.env)] := by rfl)
    (hc1 : starEach [e, e2] X.env = (false, eval e X.env) :: starEach [e2] X.env := by exact star_cons rfl) (hc2 : starEach [e2] X.env = (false, eval e2 X.env) :: starEach [] X.env := by exact star_cons rfl) :
    PI X tg (.Call (.Name "range" p) [e, e2] [] pos) (tI XO (iR2 f f2)) :=
  PI.imp (pi_range2 hg C.mrange (a_cons h (a_cons h2 (a_nil (XO := XO)) hc2) hc1) hs hs2) fun σ H R ⟨H₀, Hs, ρ, r, g, e, k, kx⟩ => by
    unfold iR2 at e
    split at e
    · rename_i l a hf
      split at e
      · rename_i m b hf2
        split at e
        · rename_i hn
          cases e
          have hb : big < 2 ^ 40 := by decide
          refine ⟨H₀, Hs, ρ, .ok (min l (min m 2)) [.int a, .int b], g, by simp [eArgs, hf, hf2], fun l' ds vs H1 e' s1 r1 => ?_, fun c H' e => (nomatch e)⟩
          cases e'
          obtain ⟨v1, vr, rfl, q1, r1⟩ := r1
          obtain ⟨v2, vr, rfl, q2, r1⟩ := r1
          have r1 : vr = [] := r1
          subst r1
          refine ⟨a, b, by rw [show v1 = V.int a from q1, show v2 = V.int b from q2], by omega, ?_⟩
          exact k 2 _ _ H1 rfl s1 fun Z _ _ => yields_from
        · cases e
      · rename_i c hf2
        cases e
        exact ⟨H₀, Hs, ρ, .exc c, g, by simp [eArgs, hf, hf2], fun l' ds vs H1 e' => (nomatch e'), fun c' H' e' s => kx c' H' (by cases e'; rfl) s⟩
      · cases e
    · rename_i c hf
      cases e
      exact ⟨H₀, Hs, ρ, .exc c, g, by simp [eArgs, hf], fun l' ds vs H1 e' => (nomatch e'), fun c' H' e' s => kx c' H' (by cases e'; rfl) s⟩
    · cases e
end
end KT
set_option Elab.async false
set_option linter.all false
set_option maxRecDepth 100000
namespace KT
open PySem
def sub_KindError : Nat → Bool := fun _ => true
def sub_ValueError : Nat → Bool := fun _ => true
def sub_NotRead : Nat → Bool := fun c => c == 1
def sub_NoThing : Nat → Bool := fun c => c == 4
def b_law_whole : FS := (sRet (eAnd (eIs .int (eVar 0)) (eNot (eIs .bool (eVar 0)))))
def m_law_whole : Nat → FC
  | 0 => fun _ => none
  | n + 1 => runB 1 (b_law_whole)
def b_law_whole_thing (g_law_whole : FC) : FS := (sSeq (sSet 1 (eLst [(eVar 0)])) (sSeq (sWhile (eNe (eVar 1) (eLst [])) (sSeq (sPop 2 1) (sIf (eIs .tuple (eVar 2)) (sExtend 1 (eVar 2)) (sIf (eAnd (eNot (eCall g_law_whole [(eVar 2)])) (eNot (eIs .str (eVar 2)))) (sRet (eC (.bool false))) sNext)))) (sRet (eC (.bool true)))))
def m_law_whole_thing : Nat → FC
  | 0 => fun _ => none
  | n + 1 => runB 3 (b_law_whole_thing (m_law_whole n))
def b_law_same (g_law_whole_thing : FC) : FS := (sRet (eAnd (eCall g_law_whole_thing [(eVar 0)]) (eEq (eVar 0) (eVar 1))))
def m_law_same : Nat → FC
  | 0 => fun _ => none
  | n + 1 => runB 2 (b_law_same (m_law_whole_thing n))
def b_is_bracket : FS := (sSeq (sIf (eOr (eNe (eIx (eVar 0) (eC (.int 0))) (eC (.str "("))) (eNotIn (eIx (eVar 0) (eC (.int 2))) (eTup [(eC (.str "+")), (eC (.str "*"))]))) (sRet (eC (.bool false))) sNext) (sRet (eAnd (eIs .tuple (eIx (eVar 0) (eC (.int 1)))) (eIs .tuple (eIx (eVar 0) (eC (.int 3)))))))
def m_is_bracket : Nat → FC
  | 0 => fun _ => none
  | n + 1 => runB 1 (b_is_bracket)
def b_close_bracket (g_is_bracket : FC) : FS := (sSeq (sIf (eOr (eLt (eLen (eVar 0)) (eC (.int 4))) (eNot (eCall g_is_bracket [(eSl (eVar 0) (oSome (eNeg (eC (.int 4)))) oNone)]))) (sRaise 1) sNext) (sSeq (sPopT 1 0) (sSeq (sPopT 2 0) (sSeq (sPopT 3 0) (sSeq (sPopTX 0) (sAppendT 0 (eTup [(eKdix [("+", .str "either"), ("*", .str "both")] (eVar 2)), (eVar 3), (eVar 1)])))))))
def m_close_bracket : Nat → FL
  | 0 => fun _ => none
  | n + 1 => runL 4 (b_close_bracket (m_is_bracket n))
def b_read (g_close_bracket : FL) : FS := (sSeq (sSet 1 (eLst [])) (sSeq (sFor (iText (eVar 0)) (tgName 2) (sIf (eKdin false [("0", .tuple [.str "none"]), ("1", .tuple [.str "one"]), ("a", .tuple [.str "name", .int 0]), ("b", .tuple [.str "name", .int 1]), ("c", .tuple [.str "name", .int 2]), ("d", .tuple [.str "name", .int 3])] (eVar 2)) (sAppend 1 (eKdix [("0", .tuple [.str "none"]), ("1", .tuple [.str "one"]), ("a", .tuple [.str "name", .int 0]), ("b", .tuple [.str "name", .int 1]), ("c", .tuple [.str "name", .int 2]), ("d", .tuple [.str "name", .int 3])] (eVar 2))) (sIf (eEq (eVar 2) (eC (.str ")"))) (sCallL g_close_bracket 1) (sAppend 1 (eVar 2))))) (sSeq (sIf (eOr (eNe (eLen (eVar 1)) (eC (.int 1))) (eNot (eIs .tuple (eIx (eVar 1) (eC (.int 0)))))) (sRaise 1) sNext) (sRet (eIx (eVar 1) (eC (.int 0)))))))
def m_read : Nat → FC
  | 0 => fun _ => none
  | n + 1 => runB 3 (b_read (m_close_bracket n))
def b_law_told (g_read : FC) : FS := (sTry (sRet (eCall g_read [(eVar 0)])) sub_KindError 1 (sRet (eLst [(eIsX 1 sub_NotRead), (eIsX 1 sub_ValueError), (eIsX 1 sub_NoThing)])))
def m_law_told : Nat → FC
  | 0 => fun _ => none
  | n + 1 => runB 2 (b_law_told (m_read n))
def b_law_due (g_law_due : FC) : FS := (sSeq (sIf (eEq (eLen (eVar 0)) (eC (.int 1))) (sSeq (sIf (eIn (eVar 0) (eTup [(eC (.str "0")), (eC (.str "1"))])) (sRet (eTup [(eDix [("0", .str "none"), ("1", .str "one")] (eVar 0))])) sNext) (sSeq (sIf (eIn (eVar 0) (eTup [(eC (.str "a")), (eC (.str "b")), (eC (.str "c")), (eC (.str "d"))])) (sRet (eTup [(eC (.str "name")), (eAbcd (eVar 0))])) sNext) (sRet (eC .none)))) sNext) (sSeq (sIf (eOr (eNe (eSlS (eVar 0) oNone (oSome (eC (.int 1)))) (eC (.str "("))) (eNe (eSlS (eVar 0) (oSome (eNeg (eC (.int 1)))) oNone) (eC (.str ")")))) (sRet (eC .none)) sNext) (sSeq (sSet 1 (eC (.int 0))) (sSeq (sFor (iR2 (eC (.int 1)) (eSub (eLen (eVar 0)) (eC (.int 1)))) (tgName 2) (sSeq (sIf (eEq (eIx (eVar 0) (eVar 2)) (eC (.str "("))) (sSet 1 (eAdd (eVar 1) (eC (.int 1)))) sNext) (sSeq (sIf (eEq (eIx (eVar 0) (eVar 2)) (eC (.str ")"))) (sSet 1 (eSub (eVar 1) (eC (.int 1)))) sNext) (sIf (eAnd (eEq (eVar 1) (eC (.int 0))) (eIn (eIx (eVar 0) (eVar 2)) (eTup [(eC (.str "+")), (eC (.str "*"))]))) (sSeq (sSet 3 (eCall g_law_due [(eSlS (eVar 0) (oSome (eC (.int 1))) (oSome (eVar 2)))])) (sSeq (sSet 4 (eCall g_law_due [(eSlS (eVar 0) (oSome (eAdd (eVar 2) (eC (.int 1)))) (oSome (eNeg (eC (.int 1)))))])) (sSeq (sIf (eOr (eIsN (eVar 3) (eC .none)) (eIsN (eVar 4) (eC .none))) (sRet (eC .none)) sNext) (sRet (eTup [(eDix [("+", .str "either"), ("*", .str "both")] (eIx (eVar 0) (eVar 2))), (eVar 3), (eVar 4)]))))) sNext)))) (sRet (eC .none))))))
def m_law_due : Nat → FC
  | 0 => fun _ => none
  | n + 1 => runB 5 (b_law_due (m_law_due n))
def b_law_stir : FS := (sSeq (sSet 1 (eC (.int 0))) (sSeq (sFor (iSeq (eLst [(eC (.int 48271)), (eC (.int 69621)), (eC (.int 39373)), (eC (.int 44488))])) (tgName 2) (sSeq (sSet 3 (eMod (eAdd (eMul (eVar 0) (eVar 2)) (eC (.int 7919))) (eC (.int 2147483647)))) (sSeq (sSet 3 (eMod (eMul (eMod (eMul (eVar 3) (eVar 3)) (eC (.int 2147483647))) (eC (.int 40692))) (eC (.int 2147483399)))) (sSet 1 (eAdd (eMul (eVar 1) (ePow (eC (.int 10)) (eC (.int 9)))) (eDiv (eVar 3) (eC (.int 7)))))))) (sRet (eVar 1))))
def m_law_stir : Nat → FC
  | 0 => fun _ => none
  | n + 1 => runB 4 (b_law_stir)
def b_law_cell (g_law_stir : FC) : FS := (sSeq (sIf (eLt (eVar 1) (eLen (eVar 0))) (sRet (eCall g_law_stir [(eIx (eVar 0) (eVar 1))])) sNext) (sRet (eCall g_law_stir [(eC (.int 0))])))
def m_law_cell : Nat → FC
  | 0 => fun _ => none
  | n + 1 => runB 2 (b_law_cell (m_law_stir n))
def b_law_odd : FS := (sSeq (sSet 1 (eLst [(eC (.str "")), (eC (.str "()")), (eC (.str "(a)")), (eC (.str "a+b")), (eC (.str "(a+b")), (eC (.str "a+b)")), (eC (.str "(a+b+c)")), (eC (.str "(a b)")), (eC (.str " a")), (eC (.str "(+a)"))])) (sRet (eIx (eAdd (eVar 1) (eLst [(eC (.str "(a*)")), (eC (.str "ab")), (eC (.str "((a+b))")), (eC (.str "10"))])) (eMod (eVar 0) (eC (.int 14))))))
def m_law_odd : Nat → FC
  | 0 => fun _ => none
  | n + 1 => runB 2 (b_law_odd)
def b_law_changed : FS := (sSeq (sSet 2 (eMod (eVar 1) (eAdd (eLen (eVar 0)) (eC (.int 1))))) (sSeq (sSet 3 (eIx (eC (.str "()+*01abcde -x2A")) (eMod (eDiv (eVar 1) (eC (.int 512))) (eC (.int 16))))) (sSeq (sSet 4 (eMod (eDiv (eVar 1) (eC (.int 16384))) (eC (.int 3)))) (sSeq (sIf (eEq (eVar 4) (eC (.int 0))) (sRet (eAdd (eSlS (eVar 0) oNone (oSome (eVar 2))) (eSlS (eVar 0) (oSome (eAdd (eVar 2) (eC (.int 1)))) oNone))) sNext) (sSeq (sIf (eEq (eVar 4) (eC (.int 1))) (sRet (eAdd (eAdd (eSlS (eVar 0) oNone (oSome (eVar 2))) (eVar 3)) (eSlS (eVar 0) (oSome (eVar 2)) oNone))) sNext) (sRet (eAdd (eAdd (eSlS (eVar 0) oNone (oSome (eVar 2))) (eVar 3)) (eSlS (eVar 0) (oSome (eAdd (eVar 2) (eC (.int 1)))) oNone))))))))
def m_law_changed : Nat → FC
  | 0 => fun _ => none
  | n + 1 => runB 5 (b_law_changed)
def b_law_text (g_law_text : FC) : FS := (sSeq (sIf (eLt (eLen (eVar 0)) (eC (.int 3))) (sRet (eDget [("none", .str "0"), ("one", .str "1")] (eIx (eVar 0) (eC (.int 0))) (eIx (eC (.str "abcd")) (eIf (eEq (eLen (eVar 0)) (eC (.int 2))) (eIx (eVar 0) (eNeg (eC (.int 1)))) (eC (.int 0)))))) sNext) (sRet (eAdd (eAdd (eAdd (eAdd (eC (.str "(")) (eCall g_law_text [(eIx (eVar 0) (eC (.int 1)))])) (eDix [("either", .str "+"), ("both", .str "*")] (eIx (eVar 0) (eC (.int 0))))) (eCall g_law_text [(eIx (eVar 0) (eC (.int 2)))])) (eC (.str ")")))))
def m_law_text : Nat → FC
  | 0 => fun _ => none
  | n + 1 => runB 1 (b_law_text (m_law_text n))
def b_law_draw : FS := (sSeq (sSet 3 (eMod (eAdd (eAdd (eMod (eVar 0) (eC (.int 2147483629))) (eC (.int 1))) (eMul (eVar 1) (eC (.int 1000003)))) (eC (.int 2147483647)))) (sSeq (sSet 3 (eMod (eMul (eMod (eMul (eVar 3) (eVar 3)) (eC (.int 2147483647))) (eC (.int 48271))) (eC (.int 2147483629)))) (sSeq (sSet 3 (eMod (eMul (eMod (eMul (eVar 3) (eVar 3)) (eC (.int 2147483629))) (eC (.int 40692))) (eC (.int 2147483399)))) (sRet (eMod (eDiv (eVar 3) (eC (.int 97))) (eVar 2))))))
def m_law_draw : Nat → FC
  | 0 => fun _ => none
  | n + 1 => runB 4 (b_law_draw)
def b_law_kind (g_law_kind : FC) (g_law_draw : FC) : FS := (sSeq (sIf (eLt (eVar 1) (eC (.int 2))) (sSeq (sSet 3 (eCall g_law_draw [(eVar 0), (eMul (eC (.int 5)) (eVar 2)), (eC (.int 12))])) (sSeq (sIf (eEq (eVar 3) (eC (.int 0))) (sRet (eTup [(eC (.str "none"))])) sNext) (sSeq (sIf (eLt (eVar 3) (eC (.int 3))) (sRet (eTup [(eC (.str "one"))])) sNext) (sRet (eTup [(eC (.str "name")), (eMod (eVar 3) (eC (.int 4)))]))))) sNext) (sSeq (sSet 4 (eAdd (eC (.int 1)) (eCall g_law_draw [(eVar 0), (eAdd (eMul (eC (.int 5)) (eVar 2)) (eC (.int 1))), (eSub (eVar 1) (eC (.int 1)))]))) (sSeq (sSet 5 (eIx (eLst [(eC (.str "either")), (eC (.str "both"))]) (eCall g_law_draw [(eVar 0), (eAdd (eMul (eC (.int 5)) (eVar 2)) (eC (.int 2))), (eC (.int 2))]))) (sRet (eTup [(eVar 5), (eCall g_law_kind [(eVar 0), (eVar 4), (eMul (eC (.int 2)) (eVar 2))]), (eCall g_law_kind [(eVar 0), (eSub (eVar 1) (eVar 4)), (eAdd (eMul (eC (.int 2)) (eVar 2)) (eC (.int 1)))])])))))
def m_law_kind : Nat → FC
  | 0 => fun _ => none
  | n + 1 => runB 6 (b_law_kind (m_law_kind n) (m_law_draw n))
def b_law (g_law_same : FC) (g_law_told : FC) (g_law_due : FC) (g_law_cell : FC) (g_law_odd : FC) (g_law_changed : FC) (g_law_text : FC) (g_law_kind : FC) : FS := (sSeq (sSet 1 (eCall g_law_text [(eCall g_law_kind [(eCall g_law_cell [(eVar 0), (eC (.int 0))]), (eAdd (eC (.int 1)) (eMod (eCall g_law_cell [(eVar 0), (eC (.int 1))]) (eC (.int 8)))), (eC (.int 1))])])) (sSeq (sSet 2 (eMod (eDiv (eCall g_law_cell [(eVar 0), (eC (.int 1))]) (eC (.int 8))) (eC (.int 8)))) (sSeq (sIf (eIn (eVar 2) (eTup [(eC (.int 1)), (eC (.int 2)), (eC (.int 3)), (eC (.int 4))])) (sSet 1 (eCall g_law_changed [(eVar 1), (eCall g_law_cell [(eVar 0), (eC (.int 2))])])) sNext) (sSeq (sIf (eIn (eVar 2) (eTup [(eC (.int 3)), (eC (.int 4))])) (sSet 1 (eCall g_law_changed [(eVar 1), (eCall g_law_cell [(eVar 0), (eC (.int 3))])])) sNext) (sSeq (sIf (eEq (eVar 2) (eC (.int 5))) (sSet 1 (eAdd (eAdd (eC (.str "(")) (eVar 1)) (eC (.str ")")))) sNext) (sSeq (sIf (eEq (eVar 2) (eC (.int 6))) (sSet 1 (eAdd (eAdd (eVar 1) (eIx (eLst [(eC (.str "")), (eC (.str "+")), (eC (.str "*"))]) (eMod (eCall g_law_cell [(eVar 0), (eC (.int 2))]) (eC (.int 3))))) (eVar 1))) sNext) (sSeq (sIf (eEq (eMod (eDiv (eCall g_law_cell [(eVar 0), (eC (.int 1))]) (eC (.int 64))) (eC (.int 9))) (eC (.int 1))) (sSet 1 (eCall g_law_odd [(eCall g_law_cell [(eVar 0), (eC (.int 2))])])) sNext) (sSeq (sSet 3 (eCall g_law_due [(eVar 1)])) (sSeq (sSet 4 (eCall g_law_told [(eVar 1)])) (sSeq (sIf (eIsN (eVar 3) (eC .none)) (sRet (eEq (eVar 4) (eLst [(eC (.bool true)), (eC (.bool true)), (eC (.bool false))]))) sNext) (sRet (eAnd (eIs .tuple (eVar 4)) (eCall g_law_same [(eVar 4), (eVar 3)])))))))))))))
def m_law : Nat → FC
  | 0 => fun _ => none
  | n + 1 => runB 5 (b_law (m_law_same n) (m_law_told n) (m_law_due n) (m_law_cell n) (m_law_odd n) (m_law_changed n) (m_law_text n) (m_law_kind n))

end KT
set_option Elab.async false
set_option linter.all false
set_option maxRecDepth 100000
namespace KT
open PySem PySem.Spec PyProof.Rows L2
set_option maxHeartbeats 0
seal L2.PS L2.PSs L2.PE L2.PT L2.PW L2.PA L2.PI L2.PO
def top (i : Nat) : Stmt := PySem.Challenge.pw_kindturn_k16_read.main.body.getD i (.Pass ⟨0, 0, 0, 0⟩)
section
variable {P : Program} {w : World} {K : PySem.W.Frag} {mg : Str → Option Value} {base : Heap} {cv : Nat → Value} {n : Nat} {f : Addr} {fd : FuncData}
abbrev st_law_whole : Stmt := top 13
theorem sc_law_whole : FnScope ["found"] ["found"] (defScope st_law_whole) := ⟨rfl, rfl, rfl, by decide +kernel, rfl, by decide +kernel, by decide +kernel⟩
theorem ok_law_whole (M : MF mg) (F : Fun K "_law_whole" "_law_whole" st_law_whole f fd) : FnOk P w K mg base (CX1 P w) (n + 1) f fd ["found"] (spD cv 1 (m_law_whole (n + 1))) :=
  fun_okD M F sc_law_whole fun cdv A outer s H E B =>
    (b_one (s_ret (x_and (x_isint B.C (x_var 0)) (x_one (x_not (x_isbool B.C (x_var 0)))))))
abbrev st_law_whole_thing : Stmt := top 16
theorem sc_law_whole_thing : FnScope ["found", "waiting", "one"] ["found"] (defScope st_law_whole_thing) := ⟨rfl, rfl, rfl, by decide +kernel, rfl, by decide +kernel, by decide +kernel⟩
theorem ok_law_whole_thing (M : MF mg) (F : Fun K "_law_whole_thing" "_law_whole_thing" st_law_whole_thing f fd) (F_law_whole : FnF (CX1 P w) P w K mg base cv n "_law_whole" 1 (m_law_whole n)) : FnOk P w K mg base (CX1 P w) (n + 1) f fd ["found"] (spD cv 1 (m_law_whole_thing (n + 1))) :=
  fun_okD M F sc_law_whole_thing fun cdv A outer s H E B =>
    (by (refine b_cons (s_set 1 B.nd (x_lst (a_cons (x_var 0) a_nil))) ?_); (refine b_cons (s_while B.pw (u_Ne B.C (x_var 1) (x_lst a_nil)) (by (refine b_cons (s_pop 2 1 B.nd) ?_); exact b_one (s_if (u_val (x_istuple B.C (x_var 2))) (b_one (s_extend 1 (x_var 2))) (b_one (s_if (L2.PW.pt (u_and (u_not (u_val (x_call F_law_whole B.hr B.L (a_cons (x_var 2) a_nil)))) (u_oneAnd (u_not (u_val (x_isstr B.C (x_var 2))))))) (b_one (s_ret x_bl)) b_nil))))) ?_); exact b_one (s_ret x_bl))
abbrev st_law_same : Stmt := top 17
theorem sc_law_same : FnScope ["found", "due"] ["found", "due"] (defScope st_law_same) := ⟨rfl, rfl, rfl, by decide +kernel, rfl, by decide +kernel, by decide +kernel⟩
theorem ok_law_same (M : MF mg) (F : Fun K "_law_same" "_law_same" st_law_same f fd) (F_law_whole_thing : FnF (CX1 P w) P w K mg base cv n "_law_whole_thing" 1 (m_law_whole_thing n)) : FnOk P w K mg base (CX1 P w) (n + 1) f fd ["found", "due"] (spD cv 2 (m_law_same (n + 1))) :=
  fun_okD M F sc_law_same fun cdv A outer s H E B =>
    (b_one (s_ret (x_and (x_call F_law_whole_thing B.hr B.L (a_cons (x_var 0) a_nil)) (x_one (x_Eq B.C (x_var 0) (x_var 1))))))
abbrev st_is_bracket : Stmt := top 9
theorem sc_is_bracket : FnScope ["signs"] ["signs"] (defScope st_is_bracket) := ⟨rfl, rfl, rfl, by decide +kernel, rfl, by decide +kernel, by decide +kernel⟩
theorem ok_is_bracket (M : MF mg) (F : Fun K "is_bracket" "is_bracket" st_is_bracket f fd) : FnOk P w K mg base (CX1 P w) (n + 1) f fd ["signs"] (spD cv 1 (m_is_bracket (n + 1))) :=
  fun_okD M F sc_is_bracket fun cdv A outer s H E B =>
    (by (refine b_cons (s_if (L2.PW.pt (u_or (u_Ne B.C (x_at (x_var 0) x_int) x_str) (u_oneOr (u_NotIn B.C (x_at (x_var 0) x_int) (x_tup (a_cons x_str (a_cons x_str a_nil))))))) (b_one (s_ret x_bl)) b_nil) ?_); exact b_one (s_ret (x_and (x_istuple B.C (x_at (x_var 0) x_int)) (x_one (x_istuple B.C (x_at (x_var 0) x_int))))))
abbrev st_close_bracket : Stmt := top 8
theorem sc_close_bracket : FnScope ["line", "second", "sign", "first"] ["line"] (defScope st_close_bracket) := ⟨rfl, rfl, rfl, by decide +kernel, rfl, by decide +kernel, by decide +kernel⟩
theorem ok_close_bracket (M : MF mg) (F : Fun K "close_bracket" "close_bracket" st_close_bracket f fd) (F_is_bracket : FnF (CX1 P w) P w K mg base cv n "is_bracket" 1 (m_is_bracket n)) (R_NotRead : ExcF K mg cv "NotRead" 1) (KD_WORDS : KDct K w.params mg "WORDS" [("+", .str "either"), ("*", .str "both")]) : FnOk P w K mg base (CX1 P w) (n + 1) f fd ["line"] (spL cv (m_close_bracket (n + 1))) :=
  fun_okL M F sc_close_bracket fun lend cdv A outer s H E B =>
    (by (refine b_cons (s_if (L2.PW.pt (u_or (u_Lt B.C (x_len B.C (x_var 0)) x_int) (u_oneOr (u_not (u_val (x_call F_is_bracket B.hr B.L (a_cons (x_sl (x_var 0) (o_some (x_neg x_int)) o_none) a_nil))))))) (b_one (s_raise R_NotRead B.hr.hd B.R)) b_nil) ?_); (refine b_cons (s_popT 1 0 B.nd) ?_); (refine b_cons (s_popT 2 0 B.nd) ?_); (refine b_cons (s_popT 3 0 B.nd) ?_); (refine b_cons (s_popTX 0) ?_); exact b_one (s_appendT 0 (x_tup (a_cons (x_kdix KD_WORDS (x_var 2)) (a_cons (x_var 3) (a_cons (x_var 1) a_nil))))))
abbrev st_read : Stmt := top 7
theorem sc_read : FnScope ["text", "line", "sign"] ["text"] (defScope st_read) := ⟨rfl, rfl, rfl, by decide +kernel, rfl, by decide +kernel, by decide +kernel⟩
theorem ok_read (M : MF mg) (F : Fun K "read" "read" st_read f fd) (F_close_bracket : FnL (CX1 P w) P w K mg base cv n "close_bracket" (m_close_bracket n)) (R_NotRead : ExcF K mg cv "NotRead" 1) (KD_LEAVES : KDct K w.params mg "LEAVES" [("0", .tuple [.str "none"]), ("1", .tuple [.str "one"]), ("a", .tuple [.str "name", .int 0]), ("b", .tuple [.str "name", .int 1]), ("c", .tuple [.str "name", .int 2]), ("d", .tuple [.str "name", .int 3])]) : FnOk P w K mg base (CX1 P w) (n + 1) f fd ["text"] (spD cv 1 (m_read (n + 1))) :=
  fun_okD M F sc_read fun cdv A outer s H E B =>
    (by (refine b_cons (s_set 1 B.nd (x_lst a_nil)) ?_); (refine b_cons (s_for B.pw B.hc (i_text (x_var 0)) (g_name 2 B.nd) (b_one (s_if (u_kdin KD_LEAVES (x_var 2)) (b_one (s_append 1 (x_kdix KD_LEAVES (x_var 2)))) (b_one (s_if (u_Eq B.C (x_var 2) x_str) (b_one (s_callL 1 F_close_bracket B.hr B.L)) (b_one (s_append 1 (x_var 2)))))))) ?_); (refine b_cons (s_if (L2.PW.pt (u_or (u_Ne B.C (x_len B.C (x_var 1)) x_int) (u_oneOr (u_not (u_val (x_istuple B.C (x_at (x_var 1) x_int))))))) (b_one (s_raise R_NotRead B.hr.hd B.R)) b_nil) ?_); exact b_one (s_ret (x_at (x_var 1) x_int)))
abbrev st_law_told : Stmt := top 22
theorem sc_law_told : FnScope ["text", "e"] ["text"] (defScope st_law_told) := ⟨rfl, rfl, rfl, by decide +kernel, rfl, by decide +kernel, by decide +kernel⟩
theorem ok_law_told (M : MF mg) (F : Fun K "_law_told" "_law_told" st_law_told f fd) (F_read : FnF (CX1 P w) P w K mg base cv n "read" 1 (m_read n)) (I_NotRead : IsF K mg cv "NotRead" sub_NotRead) (I_ValueError : IsF K mg cv "ValueError" sub_ValueError) (I_NoThing : IsF K mg cv "NoThing" sub_NoThing) (H_KindError : HanF K mg cv "KindError" sub_KindError) : FnOk P w K mg base (CX1 P w) (n + 1) f fd ["text"] (spD cv 1 (m_law_told (n + 1))) :=
  fun_okD M F sc_law_told fun cdv A outer s H E B =>
    (b_one (s_try H_KindError 1 B.C B.hr B.hc B.nd (fun xe pn XO' B => (b_one (s_ret (x_call F_read B.hr B.L (a_cons (x_var 0) a_nil))))) (fun e B => (b_one (s_ret (x_lst (a_cons (x_isx 1 B.C I_NotRead) (a_cons (x_isx 1 B.C I_ValueError) (a_cons (x_isx 1 B.C I_NoThing) a_nil)))))))))
abbrev st_law_due : Stmt := top 21
theorem sc_law_due : FnScope ["text", "depth", "at", "left", "right"] ["text"] (defScope st_law_due) := ⟨rfl, rfl, rfl, by decide +kernel, rfl, by decide +kernel, by decide +kernel⟩
theorem ok_law_due (M : MF mg) (F : Fun K "_law_due" "_law_due" st_law_due f fd) (F_law_due : FnF (CX1 P w) P w K mg base cv n "_law_due" 1 (m_law_due n)) : FnOk P w K mg base (CX1 P w) (n + 1) f fd ["text"] (spD cv 1 (m_law_due (n + 1))) :=
  fun_okD M F sc_law_due fun cdv A outer s H E B =>
    (by (refine b_cons (s_if (u_Eq B.C (x_len B.C (x_var 0)) x_int) (by (refine b_cons (s_if (u_In B.C (x_var 0) (x_tup (a_cons x_str (a_cons x_str a_nil)))) (b_one (s_ret (x_tup (a_cons (x_dix (kvs := [("0", .str "none"), ("1", .str "one")]) B.C (p_str (p_str p_nil)) (x_var 0)) a_nil)))) b_nil) ?_); (refine b_cons (s_if (u_In B.C (x_var 0) (x_tup (a_cons x_str (a_cons x_str (a_cons x_str (a_cons x_str a_nil)))))) (b_one (s_ret (x_tup (a_cons x_str (a_cons (x_abcd (x_var 0)) a_nil))))) b_nil) ?_); exact b_one (s_ret x_non)) b_nil) ?_); (refine b_cons (s_if (L2.PW.pt (u_or (u_Ne B.C (x_slS (x_var 0) o_none (o_some x_int)) x_str) (u_oneOr (u_Ne B.C (x_slS (x_var 0) (o_some (x_neg x_int)) o_none) x_str)))) (b_one (s_ret x_non)) b_nil) ?_); (refine b_cons (s_set 1 B.nd x_int) ?_); (refine b_cons (s_for B.pw B.hc (i_r2 B.C x_int (x_sub (x_len B.C (x_var 0)) x_int)) (g_name 2 B.nd) (by (refine b_cons (s_if (u_Eq B.C (x_at (x_var 0) (x_var 2)) x_str) (b_one (s_set 1 B.nd (x_add (x_var 1) x_int))) b_nil) ?_); (refine b_cons (s_if (u_Eq B.C (x_at (x_var 0) (x_var 2)) x_str) (b_one (s_set 1 B.nd (x_sub (x_var 1) x_int))) b_nil) ?_); exact b_one (s_if (L2.PW.pt (u_and (u_Eq B.C (x_var 1) x_int) (u_oneAnd (u_In B.C (x_at (x_var 0) (x_var 2)) (x_tup (a_cons x_str (a_cons x_str a_nil))))))) (by (refine b_cons (s_set 3 B.nd (x_call F_law_due B.hr B.L (a_cons (x_slS (x_var 0) (o_some x_int) (o_some (x_var 2))) a_nil))) ?_); (refine b_cons (s_set 4 B.nd (x_call F_law_due B.hr B.L (a_cons (x_slS (x_var 0) (o_some (x_add (x_var 2) x_int)) (o_some (x_neg x_int))) a_nil))) ?_); (refine b_cons (s_if (L2.PW.pt (u_or (u_IsN B.C (x_var 3) x_non) (u_oneOr (u_IsN B.C (x_var 4) x_non)))) (b_one (s_ret x_non)) b_nil) ?_); exact b_one (s_ret (x_tup (a_cons (x_dix (kvs := [("+", .str "either"), ("*", .str "both")]) B.C (p_str (p_str p_nil)) (x_at (x_var 0) (x_var 2))) (a_cons (x_var 3) (a_cons (x_var 4) a_nil)))))) b_nil))) ?_); exact b_one (s_ret x_non))
abbrev st_law_stir : Stmt := top 11
theorem sc_law_stir : FnScope ["cell", "found", "factor", "mixed"] ["cell"] (defScope st_law_stir) := ⟨rfl, rfl, rfl, by decide +kernel, rfl, by decide +kernel, by decide +kernel⟩
theorem ok_law_stir (M : MF mg) (F : Fun K "_law_stir" "_law_stir" st_law_stir f fd) : FnOk P w K mg base (CX1 P w) (n + 1) f fd ["cell"] (spD cv 1 (m_law_stir (n + 1))) :=
  fun_okD M F sc_law_stir fun cdv A outer s H E B =>
    (by (refine b_cons (s_set 1 B.nd x_int) ?_); (refine b_cons (s_for B.pw B.hc (i_seq (x_lst (a_cons x_int (a_cons x_int (a_cons x_int (a_cons x_int a_nil)))))) (g_name 2 B.nd) (by (refine b_cons (s_set 3 B.nd (x_mod (x_add (x_mul (x_var 0) (x_var 2)) x_int) x_int)) ?_); (refine b_cons (s_set 3 B.nd (x_mod (x_mul (x_mod (x_mul (x_var 3) (x_var 3)) x_int) x_int) x_int)) ?_); exact b_one (s_set 1 B.nd (x_add (x_mul (x_var 1) (x_pow x_int x_int)) (x_div (x_var 3) x_int))))) ?_); exact b_one (s_ret (x_var 1)))
abbrev st_law_cell : Stmt := top 12
theorem sc_law_cell : FnScope ["script", "k"] ["script", "k"] (defScope st_law_cell) := ⟨rfl, rfl, rfl, by decide +kernel, rfl, by decide +kernel, by decide +kernel⟩
theorem ok_law_cell (M : MF mg) (F : Fun K "_law_cell" "_law_cell" st_law_cell f fd) (F_law_stir : FnF (CX1 P w) P w K mg base cv n "_law_stir" 1 (m_law_stir n)) : FnOk P w K mg base (CX1 P w) (n + 1) f fd ["script", "k"] (spD cv 2 (m_law_cell (n + 1))) :=
  fun_okD M F sc_law_cell fun cdv A outer s H E B =>
    (by (refine b_cons (s_if (u_Lt B.C (x_var 1) (x_len B.C (x_var 0))) (b_one (s_ret (x_call F_law_stir B.hr B.L (a_cons (x_at (x_var 0) (x_var 1)) a_nil)))) b_nil) ?_); exact b_one (s_ret (x_call F_law_stir B.hr B.L (a_cons x_int a_nil))))
abbrev st_law_odd : Stmt := top 20
theorem sc_law_odd : FnScope ["cell", "some"] ["cell"] (defScope st_law_odd) := ⟨rfl, rfl, rfl, by decide +kernel, rfl, by decide +kernel, by decide +kernel⟩
theorem ok_law_odd (M : MF mg) (F : Fun K "_law_odd" "_law_odd" st_law_odd f fd) : FnOk P w K mg base (CX1 P w) (n + 1) f fd ["cell"] (spD cv 1 (m_law_odd (n + 1))) :=
  fun_okD M F sc_law_odd fun cdv A outer s H E B =>
    (by (refine b_cons (s_set 1 B.nd (x_lst (a_cons x_str (a_cons x_str (a_cons x_str (a_cons x_str (a_cons x_str (a_cons x_str (a_cons x_str (a_cons x_str (a_cons x_str (a_cons x_str a_nil)))))))))))) ?_); exact b_one (s_ret (x_at (x_add (x_var 1) (x_lst (a_cons x_str (a_cons x_str (a_cons x_str (a_cons x_str a_nil)))))) (x_mod (x_var 0) x_int))))
abbrev st_law_changed : Stmt := top 19
theorem sc_law_changed : FnScope ["text", "cell", "at", "sign", "mode"] ["text", "cell"] (defScope st_law_changed) := ⟨rfl, rfl, rfl, by decide +kernel, rfl, by decide +kernel, by decide +kernel⟩
theorem ok_law_changed (M : MF mg) (F : Fun K "_law_changed" "_law_changed" st_law_changed f fd) : FnOk P w K mg base (CX1 P w) (n + 1) f fd ["text", "cell"] (spD cv 2 (m_law_changed (n + 1))) :=
  fun_okD M F sc_law_changed fun cdv A outer s H E B =>
    (by (refine b_cons (s_set 2 B.nd (x_mod (x_var 1) (x_add (x_len B.C (x_var 0)) x_int))) ?_); (refine b_cons (s_set 3 B.nd (x_at x_str (x_mod (x_div (x_var 1) x_int) x_int))) ?_); (refine b_cons (s_set 4 B.nd (x_mod (x_div (x_var 1) x_int) x_int)) ?_); (refine b_cons (s_if (u_Eq B.C (x_var 4) x_int) (b_one (s_ret (x_add (x_slS (x_var 0) o_none (o_some (x_var 2))) (x_slS (x_var 0) (o_some (x_add (x_var 2) x_int)) o_none)))) b_nil) ?_); (refine b_cons (s_if (u_Eq B.C (x_var 4) x_int) (b_one (s_ret (x_add (x_add (x_slS (x_var 0) o_none (o_some (x_var 2))) (x_var 3)) (x_slS (x_var 0) (o_some (x_var 2)) o_none)))) b_nil) ?_); exact b_one (s_ret (x_add (x_add (x_slS (x_var 0) o_none (o_some (x_var 2))) (x_var 3)) (x_slS (x_var 0) (o_some (x_add (x_var 2) x_int)) o_none))))
abbrev st_law_text : Stmt := top 18
theorem sc_law_text : FnScope ["kind"] ["kind"] (defScope st_law_text) := ⟨rfl, rfl, rfl, by decide +kernel, rfl, by decide +kernel, by decide +kernel⟩
theorem ok_law_text (M : MF mg) (F : Fun K "_law_text" "_law_text" st_law_text f fd) (F_law_text : FnF (CX1 P w) P w K mg base cv n "_law_text" 1 (m_law_text n)) : FnOk P w K mg base (CX1 P w) (n + 1) f fd ["kind"] (spD cv 1 (m_law_text (n + 1))) :=
  fun_okD M F sc_law_text fun cdv A outer s H E B =>
    (by (refine b_cons (s_if (u_Lt B.C (x_len B.C (x_var 0)) x_int) (b_one (s_ret (x_dget (kvs := [("none", .str "0"), ("one", .str "1")]) B.C (p_str (p_str p_nil)) (x_at (x_var 0) x_int) (x_at x_str (x_ifx (u_Eq B.C (x_len B.C (x_var 0)) x_int) (x_at (x_var 0) (x_neg x_int)) x_int))))) b_nil) ?_); exact b_one (s_ret (x_add (x_add (x_add (x_add x_str (x_call F_law_text B.hr B.L (a_cons (x_at (x_var 0) x_int) a_nil))) (x_dix (kvs := [("either", .str "+"), ("both", .str "*")]) B.C (p_str (p_str p_nil)) (x_at (x_var 0) x_int))) (x_call F_law_text B.hr B.L (a_cons (x_at (x_var 0) x_int) a_nil))) x_str)))
abbrev st_law_draw : Stmt := top 14
theorem sc_law_draw : FnScope ["cell", "k", "bound", "stir"] ["cell", "k", "bound"] (defScope st_law_draw) := ⟨rfl, rfl, rfl, by decide +kernel, rfl, by decide +kernel, by decide +kernel⟩
theorem ok_law_draw (M : MF mg) (F : Fun K "_law_draw" "_law_draw" st_law_draw f fd) : FnOk P w K mg base (CX1 P w) (n + 1) f fd ["cell", "k", "bound"] (spD cv 3 (m_law_draw (n + 1))) :=
  fun_okD M F sc_law_draw fun cdv A outer s H E B =>
    (by (refine b_cons (s_set 3 B.nd (x_mod (x_add (x_add (x_mod (x_var 0) x_int) x_int) (x_mul (x_var 1) x_int)) x_int)) ?_); (refine b_cons (s_set 3 B.nd (x_mod (x_mul (x_mod (x_mul (x_var 3) (x_var 3)) x_int) x_int) x_int)) ?_); (refine b_cons (s_set 3 B.nd (x_mod (x_mul (x_mod (x_mul (x_var 3) (x_var 3)) x_int) x_int) x_int)) ?_); exact b_one (s_ret (x_mod (x_div (x_var 3) x_int) (x_var 2))))
abbrev st_law_kind : Stmt := top 15
theorem sc_law_kind : FnScope ["cell", "leaves", "k", "which", "left", "word"] ["cell", "leaves", "k"] (defScope st_law_kind) := ⟨rfl, rfl, rfl, by decide +kernel, rfl, by decide +kernel, by decide +kernel⟩
theorem ok_law_kind (M : MF mg) (F : Fun K "_law_kind" "_law_kind" st_law_kind f fd) (F_law_kind : FnF (CX1 P w) P w K mg base cv n "_law_kind" 3 (m_law_kind n)) (F_law_draw : FnF (CX1 P w) P w K mg base cv n "_law_draw" 3 (m_law_draw n)) : FnOk P w K mg base (CX1 P w) (n + 1) f fd ["cell", "leaves", "k"] (spD cv 3 (m_law_kind (n + 1))) :=
  fun_okD M F sc_law_kind fun cdv A outer s H E B =>
    (by (refine b_cons (s_if (u_Lt B.C (x_var 1) x_int) (by (refine b_cons (s_set 3 B.nd (x_call F_law_draw B.hr B.L (a_cons (x_var 0) (a_cons (x_mul x_int (x_var 2)) (a_cons x_int a_nil))))) ?_); (refine b_cons (s_if (u_Eq B.C (x_var 3) x_int) (b_one (s_ret (x_tup (a_cons x_str a_nil)))) b_nil) ?_); (refine b_cons (s_if (u_Lt B.C (x_var 3) x_int) (b_one (s_ret (x_tup (a_cons x_str a_nil)))) b_nil) ?_); exact b_one (s_ret (x_tup (a_cons x_str (a_cons (x_mod (x_var 3) x_int) a_nil))))) b_nil) ?_); (refine b_cons (s_set 4 B.nd (x_add x_int (x_call F_law_draw B.hr B.L (a_cons (x_var 0) (a_cons (x_add (x_mul x_int (x_var 2)) x_int) (a_cons (x_sub (x_var 1) x_int) a_nil)))))) ?_); (refine b_cons (s_set 5 B.nd (x_at (x_lst (a_cons x_str (a_cons x_str a_nil))) (x_call F_law_draw B.hr B.L (a_cons (x_var 0) (a_cons (x_add (x_mul x_int (x_var 2)) x_int) (a_cons x_int a_nil)))))) ?_); exact b_one (s_ret (x_tup (a_cons (x_var 5) (a_cons (x_call F_law_kind B.hr B.L (a_cons (x_var 0) (a_cons (x_var 4) (a_cons (x_mul x_int (x_var 2)) a_nil)))) (a_cons (x_call F_law_kind B.hr B.L (a_cons (x_var 0) (a_cons (x_sub (x_var 1) (x_var 4)) (a_cons (x_add (x_mul x_int (x_var 2)) x_int) a_nil)))) a_nil))))))
abbrev st_law : Stmt := top 23
theorem sc_law : FnScope ["script", "text", "mode", "due", "told"] ["script"] (defScope st_law) := ⟨rfl, rfl, rfl, by decide +kernel, rfl, by decide +kernel, by decide +kernel⟩
theorem ok_law (M : MF mg) (F : Fun K "law" "law" st_law f fd) (F_law_same : FnF (CX1 P w) P w K mg base cv n "_law_same" 2 (m_law_same n)) (F_law_told : FnF (CX1 P w) P w K mg base cv n "_law_told" 1 (m_law_told n)) (F_law_due : FnF (CX1 P w) P w K mg base cv n "_law_due" 1 (m_law_due n)) (F_law_cell : FnF (CX1 P w) P w K mg base cv n "_law_cell" 2 (m_law_cell n)) (F_law_odd : FnF (CX1 P w) P w K mg base cv n "_law_odd" 1 (m_law_odd n)) (F_law_changed : FnF (CX1 P w) P w K mg base cv n "_law_changed" 2 (m_law_changed n)) (F_law_text : FnF (CX1 P w) P w K mg base cv n "_law_text" 1 (m_law_text n)) (F_law_kind : FnF (CX1 P w) P w K mg base cv n "_law_kind" 3 (m_law_kind n)) : FnOk P w K mg base (CX1 P w) (n + 1) f fd ["script"] (spD cv 1 (m_law (n + 1))) :=
  fun_okD M F sc_law fun cdv A outer s H E B =>
    (by (refine b_cons (s_set 1 B.nd (x_call F_law_text B.hr B.L (a_cons (x_call F_law_kind B.hr B.L (a_cons (x_call F_law_cell B.hr B.L (a_cons (x_var 0) (a_cons x_int a_nil))) (a_cons (x_add x_int (x_mod (x_call F_law_cell B.hr B.L (a_cons (x_var 0) (a_cons x_int a_nil))) x_int)) (a_cons x_int a_nil)))) a_nil))) ?_); (refine b_cons (s_set 2 B.nd (x_mod (x_div (x_call F_law_cell B.hr B.L (a_cons (x_var 0) (a_cons x_int a_nil))) x_int) x_int)) ?_); (refine b_cons (s_if (u_In B.C (x_var 2) (x_tup (a_cons x_int (a_cons x_int (a_cons x_int (a_cons x_int a_nil)))))) (b_one (s_set 1 B.nd (x_call F_law_changed B.hr B.L (a_cons (x_var 1) (a_cons (x_call F_law_cell B.hr B.L (a_cons (x_var 0) (a_cons x_int a_nil))) a_nil))))) b_nil) ?_); (refine b_cons (s_if (u_In B.C (x_var 2) (x_tup (a_cons x_int (a_cons x_int a_nil)))) (b_one (s_set 1 B.nd (x_call F_law_changed B.hr B.L (a_cons (x_var 1) (a_cons (x_call F_law_cell B.hr B.L (a_cons (x_var 0) (a_cons x_int a_nil))) a_nil))))) b_nil) ?_); (refine b_cons (s_if (u_Eq B.C (x_var 2) x_int) (b_one (s_set 1 B.nd (x_add (x_add x_str (x_var 1)) x_str))) b_nil) ?_); (refine b_cons (s_if (u_Eq B.C (x_var 2) x_int) (b_one (s_set 1 B.nd (x_add (x_add (x_var 1) (x_at (x_lst (a_cons x_str (a_cons x_str (a_cons x_str a_nil)))) (x_mod (x_call F_law_cell B.hr B.L (a_cons (x_var 0) (a_cons x_int a_nil))) x_int))) (x_var 1)))) b_nil) ?_); (refine b_cons (s_if (u_Eq B.C (x_mod (x_div (x_call F_law_cell B.hr B.L (a_cons (x_var 0) (a_cons x_int a_nil))) x_int) x_int) x_int) (b_one (s_set 1 B.nd (x_call F_law_odd B.hr B.L (a_cons (x_call F_law_cell B.hr B.L (a_cons (x_var 0) (a_cons x_int a_nil))) a_nil)))) b_nil) ?_); (refine b_cons (s_set 3 B.nd (x_call F_law_due B.hr B.L (a_cons (x_var 1) a_nil))) ?_); (refine b_cons (s_set 4 B.nd (x_call F_law_told B.hr B.L (a_cons (x_var 1) a_nil))) ?_); (refine b_cons (s_if (u_IsN B.C (x_var 3) x_non) (b_one (s_ret (x_Eq B.C (x_var 4) (x_lst (a_cons x_bl (a_cons x_bl (a_cons x_bl a_nil))))))) b_nil) ?_); exact b_one (s_ret (x_and (x_istuple B.C (x_var 4)) (x_one (x_call F_law_same B.hr B.L (a_cons (x_var 4) (a_cons (x_var 3) a_nil)))))))
end

end KT
set_option Elab.async false
set_option linter.all false
set_option maxRecDepth 100000
namespace KT
open PySem
/-! ### reading a def's body: the combinators at values -/
section
variable {ρ ρ' : Rho} {l m : Nat} {d x y : PyData} {c : Nat} {f g : FE} {a b : FS}
theorem div_ok {i j : Int} (h : 0 < j) (h2 : j.natAbs < lim) : dDiv (.int i) (.int j) = some (.int (i / j)) := if_pos ⟨h, h2⟩
theorem mod_ok {i j : Int} (h : 0 < j) : dMod (.int i) (.int j) = some (.int (i % j)) := if_pos h
theorem mulR {i j : Int} (h : j.natAbs < 2 ^ 64) : CMulD i j := .inr (.inl h)
theorem mulL {i j : Int} (h : i.natAbs < 2 ^ 64) : CMulD i j := .inl h
theorem asg_int (l : Nat) (i : Int) : asg l (.int i) = some (.loc (.int i)) := rfl
theorem asg_str (l : Nat) (i : Str) : asg l (.str i) = some (.loc (.str i)) := rfl
theorem asg_lf {l : Nat} {d : PyData} (h : lf d = true) : asg l d = some (.loc d) := if_pos h
end
theorem eqII (i j : Int) : dEq (.int i) (.int j) = some (.bool (i == j)) := rfl
theorem eqSS (i j : Str) : dEq (.str i) (.str j) = some (.bool (i == j)) := rfl
theorem neII (i j : Int) : dNe (.int i) (.int j) = some (.bool (!(i == j))) := rfl
theorem neSS (i j : Str) : dNe (.str i) (.str j) = some (.bool (!(i == j))) := rfl
theorem addII (i j : Int) : dAdd (.int i) (.int j) = some (.int (i + j)) := rfl
theorem subII (i j : Int) : dSub (.int i) (.int j) = some (.int (i - j)) := rfl
theorem seq_next {a b : FS} {ρ ρ' : Rho} (h : a ρ = some (.next ρ')) : sSeq a b ρ = b ρ' := by unfold sSeq; rw [h]
theorem run_ret {n : Nat} {b : FS} {ds : List PyData} {d : PyData} (h : b (ds.map (fun d => some (.par d)) ++ List.replicate (n - ds.length) none) = some (.ret d)) : runB n b ds = some (.ok d) := by unfold runB; rw [h]
end KT
set_option Elab.async false
set_option linter.all false
set_option maxRecDepth 100000
namespace KT
open PySem
/-! ### kinds -/
inductive Kd where
  | none
  | one
  | name (i : Int)
  | either (a b : Kd)
  | both (a b : Kd)
def enc : Kd → PyData
  | .none => .tuple [.str "none"]
  | .one => .tuple [.str "one"]
  | .name i => .tuple [.str "name", .int i]
  | .either a b => .tuple [.str "either", enc a, enc b]
  | .both a b => .tuple [.str "both", enc a, enc b]
def Kd.leaves : Kd → Nat
  | .either a b => a.leaves + b.leaves
  | .both a b => a.leaves + b.leaves
  | _ => 1
def Kd.Ok : Kd → Prop
  | .name i => 0 ≤ i ∧ i ≤ 3
  | .either a b => a.Ok ∧ b.Ok
  | .both a b => a.Ok ∧ b.Ok
  | _ => True
theorem Kd.pos : ∀ k : Kd, 1 ≤ k.leaves
  | .none => Nat.le_refl _
  | .one => Nat.le_refl _
  | .name _ => Nat.le_refl _
  | .either a b => by have := a.pos; simp only [leaves]; omega
  | .both a b => by have := a.pos; simp only [leaves]; omega
theorem enc_lf : ∀ k : Kd, lf (enc k) = true
  | .none => rfl
  | .one => rfl
  | .name _ => rfl
  | .either a b => by simp [enc, lf, lfs, enc_lf a, enc_lf b]
  | .both a b => by simp [enc, lf, lfs, enc_lf a, enc_lf b]
theorem ok_none : PyData.strOk "none" = true := by decide +kernel
theorem ok_one : PyData.strOk "one" = true := by decide +kernel
theorem ok_name : PyData.strOk "name" = true := by decide +kernel
theorem ok_either : PyData.strOk "either" = true := by decide +kernel
theorem ok_both : PyData.strOk "both" = true := by decide +kernel
theorem enc_lay : ∀ k : Kd, (enc k).canLay0 = true
  | .none => by simp [enc, PyData.canLay0, PyData.canLayAll0, ok_none]
  | .one => by simp [enc, PyData.canLay0, PyData.canLayAll0, ok_one]
  | .name _ => by simp [enc, PyData.canLay0, PyData.canLayAll0, ok_name]
  | .either a b => by simp [enc, PyData.canLay0, PyData.canLayAll0, ok_either, enc_lay a, enc_lay b]
  | .both a b => by simp [enc, PyData.canLay0, PyData.canLayAll0, ok_both, enc_lay a, enc_lay b]
theorem enc_depth : ∀ k : Kd, (enc k).depth ≤ k.leaves
  | .none => by simp [enc, PyData.depth, PyData.depthAll, Kd.leaves]
  | .one => by simp [enc, PyData.depth, PyData.depthAll, Kd.leaves]
  | .name _ => by simp [enc, PyData.depth, PyData.depthAll, Kd.leaves]
  | .either a b => by
    have := enc_depth a; have := enc_depth b; have := a.pos; have := b.pos
    simp [enc, PyData.depth, PyData.depthAll, Kd.leaves]; omega
  | .both a b => by
    have := enc_depth a; have := enc_depth b; have := a.pos; have := b.pos
    simp [enc, PyData.depth, PyData.depthAll, Kd.leaves]; omega
theorem w07 : (("both" : Str) == "either") = false := by decide +kernel
theorem w08 : (("one" : Str) == "none") = false := by decide +kernel
theorem w09 : (("name" : Str) == "none") = false := by decide +kernel
theorem w10 : (("name" : Str) == "one") = false := by decide +kernel
end KT
set_option Elab.async false
set_option linter.all false
set_option maxRecDepth 100000
namespace KT
open PySem
/-! ### texts by their signs; the reader's line, from its end -/
abbrev ch (c : Nat) : Str := ⟨#[c]⟩
theorem s_0 : ("0" : Str) = ch 48 := by decide +kernel
theorem s_1 : ("1" : Str) = ch 49 := by decide +kernel
theorem s_a : ("a" : Str) = ch 97 := by decide +kernel
theorem s_b : ("b" : Str) = ch 98 := by decide +kernel
theorem s_c : ("c" : Str) = ch 99 := by decide +kernel
theorem s_d : ("d" : Str) = ch 100 := by decide +kernel
theorem s_op : ("(" : Str) = ch 40 := by decide +kernel
theorem s_cl : (")" : Str) = ch 41 := by decide +kernel
theorem s_pl : ("+" : Str) = ch 43 := by decide +kernel
theorem s_ti : ("*" : Str) = ch 42 := by decide +kernel
theorem ch_eq (c k : Nat) : (ch c == ch k) = (c == k) := by
  by_cases h : c = k
  · subst h; simp
  · have : ch c ≠ ch k := fun e => h (by injection e with e; injection e with e; injection e)
    rw [beq_eq_false_iff_ne.mpr this, beq_eq_false_iff_ne.mpr h]
def leafK : Nat → Option Kd
  | 48 => some .none
  | 49 => some .one
  | 97 => some (.name 0)
  | 98 => some (.name 1)
  | 99 => some (.name 2)
  | 100 => some (.name 3)
  | _ => none
abbrev leavesD : List (Str × PyData) := [("0", .tuple [.str "none"]), ("1", .tuple [.str "one"]), ("a", .tuple [.str "name", .int 0]), ("b", .tuple [.str "name", .int 1]), ("c", .tuple [.str "name", .int 2]), ("d", .tuple [.str "name", .int 3])]
theorem look_leaf (c : Nat) : List.lookup (ch c) leavesD = (leafK c).map enc := by
  simp only [leavesD, s_0, s_1, s_a, s_b, s_c, s_d, List.lookup_cons, ch_eq, List.lookup_nil]
  by_cases h0 : c = 48
  · subst h0; rfl
  by_cases h1 : c = 49
  · subst h1; rfl
  by_cases h2 : c = 97
  · subst h2; rfl
  by_cases h3 : c = 98
  · subst h3; rfl
  by_cases h4 : c = 99
  · subst h4; rfl
  by_cases h5 : c = 100
  · subst h5; rfl
  have e : leafK c = none := by unfold leafK; split <;> first | rfl | omega
  rw [e, beq_eq_false_iff_ne.mpr h0, beq_eq_false_iff_ne.mpr h1, beq_eq_false_iff_ne.mpr h2, beq_eq_false_iff_ne.mpr h3, beq_eq_false_iff_ne.mpr h4, beq_eq_false_iff_ne.mpr h5]
  rfl
theorem nat_beq_comm (a b : Nat) : (a == b) = (b == a) := by rw [Bool.eq_iff_iff]; simp only [beq_iff_eq]; exact ⟨Eq.symm, Eq.symm⟩
inductive Itm where
  | kd (k : Kd)
  | sg (c : Nat)
def encI : Itm → PyData
  | .kd k => enc k
  | .sg c => .str (ch c)
def lineD (R : List Itm) : List PyData := R.reverse.map encI
theorem enc_tup (k : Kd) : ∃ ds, enc k = .tuple ds := by cases k <;> exact ⟨_, rfl⟩
theorem ch_ok (c : Nat) (h : c < 128) : PyData.strOk (ch c) = true := by
  simp [PyData.strOk]
  omega
theorem itm_lf (x : Itm) : lf (encI x) = true := by
  cases x with
  | kd k => exact enc_lf k
  | sg c => rfl
theorem line_lf : ∀ R : List Itm, lfs (lineD R) = true := fun R => by
  unfold lineD
  generalize R.reverse = L
  induction L with
  | nil => rfl
  | cons x xs ih => simp [lfs, itm_lf, ih]
theorem line_cons (x : Itm) (R : List Itm) : lineD (x :: R) = lineD R ++ [encI x] := by simp [lineD]
theorem line_len (R : List Itm) : (lineD R).length = R.length := by simp [lineD]
def closeR : List Itm → Option (List Itm)
  | .kd b :: .sg s :: .kd a :: .sg p :: r => if p = 40 then (if s = 43 then some (.kd (.either a b) :: r) else if s = 42 then some (.kd (.both a b) :: r) else none) else none
  | _ => none
def stepR (R : List Itm) (c : Nat) : Option (List Itm) := match leafK c with
  | some k => some (.kd k :: R)
  | none => if c = 41 then closeR R else some (.sg c :: R)
def runR : List Nat → List Itm → Option (List Itm)
  | [], R => some R
  | c :: cs, R => (stepR R c).bind (runR cs)
def readR (cs : List Nat) : Option Kd := match runR cs [] with
  | some [.kd k] => some k
  | _ => none
/-! ### is_bracket, close_bracket -/
def opn : Itm → Bool
  | .sg k => k == 40
  | .kd _ => false
def sgn : Itm → Bool
  | .sg k => k == 43 || k == 42
  | .kd _ => false
def isKd : Itm → Bool
  | .kd _ => true
  | .sg _ => false
def asc (x : Itm) : Prop := ∀ k, x = .sg k → k < 128
theorem ne_itm (x : Itm) : dNe (encI x) (.str "(") = some (.bool (!(opn x))) := by
  rw [s_op]
  cases x with
  | sg k => simp only [encI, neSS, ch_eq, opn]
  | kd k =>
    obtain ⟨ds, e⟩ := enc_tup k
    have l := enc_lay k
    have hs := ch_ok 40 (by decide)
    simp only [encI]
    rw [e] at l ⊢
    have ho : eqOk (.tuple ds) (.str (ch 40)) = true := by
      unfold eqOk
      rw [l]
      simp [PyData.canLay0, hs, PyData.depth]
    simp [dNe, dEqB, ho, PyData.eqv, opn]
theorem nin_itm (x : Itm) (hx : asc x) : dNotIn (encI x) (.tuple [.str "+", .str "*"]) = some (.bool (!(sgn x))) := by
  rw [s_pl, s_ti]
  have h1 := ch_ok 43 (by decide)
  have h2 := ch_ok 42 (by decide)
  cases x with
  | sg k =>
    have h3 := ch_ok k (hx k rfl)
    have ho : inOk (.str (ch k)) [.str (ch 43), .str (ch 42)] = true := by
      unfold inOk
      simp [PyData.canLay0, PyData.canLayAll0, h1, h2, h3, PyData.depth, PyData.depthAll]
    have e1 : (ch 43 == ch k) = (k == 43) := by rw [ch_eq, nat_beq_comm]
    have e2 : (ch 42 == ch k) = (k == 42) := by rw [ch_eq, nat_beq_comm]
    simp only [encI, dNotIn, dInB, ho, if_true, Option.map_some, List.any_cons, List.any_nil, PyData.eqv, e1, e2, Bool.or_false, sgn]
  | kd k =>
    obtain ⟨ds, e⟩ := enc_tup k
    have l := enc_lay k
    simp only [encI]
    rw [e] at l ⊢
    have ho : inOk (.tuple ds) [.str (ch 43), .str (ch 42)] = true := by
      unfold inOk
      rw [l]
      simp [PyData.canLay0, PyData.canLayAll0, h1, h2, PyData.depth, PyData.depthAll]
    simp [dNotIn, dInB, ho, PyData.eqv, sgn]
theorem is_itm (x : Itm) : dIs .tuple (encI x) = some (.bool (isKd x)) := by
  cases x with
  | sg k => rfl
  | kd k => obtain ⟨ds, e⟩ := enc_tup k; simp [encI, e, dIs, isTy, isKd]
def isBr (a b c d : Itm) : Bool := opn a && sgn c && isKd b && isKd d
theorem is_bracket_ok (n : Nat) (a b c d : Itm) (hc : asc c) : m_is_bracket (n + 1) [.list [encI a, encI b, encI c, encI d]] = some (.ok (.bool (isBr a b c d))) := by
  have e1' := ne_itm a
  have e2' := nin_itm c hc
  have e3' := is_itm b
  have e4' := is_itm d
  have i0 : dIx (.list [encI a, encI b, encI c, encI d]) (.int 0) = some (encI a) := rfl
  have i1 : dIx (.list [encI a, encI b, encI c, encI d]) (.int 1) = some (encI b) := rfl
  have i2 : dIx (.list [encI a, encI b, encI c, encI d]) (.int 2) = some (encI c) := rfl
  have i3 : dIx (.list [encI a, encI b, encI c, encI d]) (.int 3) = some (encI d) := rfl
  show runB 1 b_is_bracket _ = _
  unfold isBr
  generalize PyData.list [encI a, encI b, encI c, encI d] = L at i0 i1 i2 i3
  generalize encI a = A at e1' i0
  generalize encI b = B at e3' i1
  generalize encI c = C at e2' i2
  generalize encI d = D at e4' i3
  generalize opn a = ba at e1'
  generalize sgn c = bc at e2'
  generalize isKd b = bb at e3'
  generalize isKd d = bd at e4'
  cases ba <;> cases bc <;> cases bb <;> simp [runB, b_is_bracket, sSeq, sIf, eOr, eNe, eNotIn, e2, eIx, eVar, eC, eTup, eArgs, bindI, bindE, bindS, i0, i1, i2, i3, e1', e2', e3', e4', sNext, sRet, eAnd, eIs, e1, lf]
theorem br_close {x0 x1 x2 x3 : Itm} {r : List Itm} (h : isBr x3 x2 x1 x0 = true) : ∃ a b s, x3 = .sg 40 ∧ x2 = .kd a ∧ x1 = .sg s ∧ x0 = .kd b ∧ ((s = 43 ∧ closeR (x0 :: x1 :: x2 :: x3 :: r) = some (.kd (.either a b) :: r)) ∨ (s = 42 ∧ closeR (x0 :: x1 :: x2 :: x3 :: r) = some (.kd (.both a b) :: r))) := by
  unfold isBr at h
  simp only [Bool.and_eq_true] at h
  obtain ⟨⟨⟨h1, h2⟩, h3⟩, h4⟩ := h
  cases x3 with
  | kd _ => cases h1
  | sg p =>
    have hp : p = 40 := by simpa [opn] using h1
    cases x1 with
    | kd _ => cases h2
    | sg s =>
      cases x2 with
      | sg _ => cases h3
      | kd a =>
        cases x0 with
        | sg _ => cases h4
        | kd b =>
          subst hp
          have hs : s = 43 ∨ s = 42 := by simpa [sgn] using h2
          refine ⟨a, b, s, rfl, rfl, rfl, rfl, ?_⟩
          rcases hs with rfl | rfl
          · exact .inl ⟨rfl, rfl⟩
          · exact .inr ⟨rfl, rfl⟩
theorem br_no {x0 x1 x2 x3 : Itm} {r : List Itm} (h : isBr x3 x2 x1 x0 = false) : closeR (x0 :: x1 :: x2 :: x3 :: r) = none := by
  unfold closeR
  split
  · rename_i b s a p r' e
    injection e with e0 e
    injection e with e1 e
    injection e with e2 e
    injection e with e3 e
    subst e0 e1 e2 e3
    simp only [isBr, isKd, Bool.and_true, opn, sgn] at h
    by_cases hp : p = 40
    · rw [if_pos hp]
      subst hp
      simp at h
      rw [if_neg h.1, if_neg h.2]
    · rw [if_neg hp]
  · rfl
theorem cut4 (L : List PyData) (a b c d : PyData) : cutP (L ++ [a, b, c, d]) (some (-4)) none = [a, b, c, d] := by
  have e : sxP (L ++ [a, b, c, d]).length 0 (some (-4)) = L.length := by
    simp only [sxP, List.length_append, List.length_cons, List.length_nil]
    rw [if_pos (by decide)]
    omega
  unfold cutP
  rw [e]
  simp [sxP]
theorem neg4 : dNeg (.int 4) = some (.int (-4)) := rfl
theorem last_app (L : List PyData) (x : PyData) : (L ++ [x])[(L ++ [x]).length - 1]? = some x := by simp
theorem close_ok (n : Nat) (R : List Itm) (hR : ∀ x ∈ R, asc x) (hl : R.length ≤ 90000) : m_close_bracket (n + 2) (lineD R) = match closeR R with
    | some R' => some (none, lineD R')
    | none => some (some 1, lineD R) := by
  show runL 4 (b_close_bracket (m_is_bracket (n + 1))) (lineD R) = _
  have hlen : dLen (.list (lineD R)) = some (.int (R.length : Int)) := by simp [dLen, line_len]
  by_cases h4 : R.length < 4
  · have hc : closeR R = none := by
      unfold closeR
      split
      · simp at h4; omega
      · rfl
    rw [hc]
    have hlt : dLt (.int (R.length : Int)) (.int 4) = some (.bool true) := by simp [dLt]; omega
    generalize lineD R = L at hlen
    simp [runL, b_close_bracket, sSeq, sIf, eOr, eLt, e2, eLen, e1, eVar, eC, bindE, bindS, hlen, hlt, sRaise, lentOf]
  · have hlt : dLt (.int (R.length : Int)) (.int 4) = some (.bool false) := by simp [dLt]; omega
    match R, h4, hR, hl, hlen, hlt with
    | x0 :: x1 :: x2 :: x3 :: r, _, hR, hl, hlen, hlt =>
      have eL : lineD (x0 :: x1 :: x2 :: x3 :: r) = lineD r ++ [encI x3, encI x2, encI x1, encI x0] := by simp [lineD]
      have hb := is_bracket_ok n x3 x2 x1 x0 (hR _ (by simp))
      have hlf := line_lf (x0 :: x1 :: x2 :: x3 :: r)
      have hsl : dSl (some (-4)) none (.list (lineD (x0 :: x1 :: x2 :: x3 :: r))) = some (.list [encI x3, encI x2, encI x1, encI x0]) := by
        simp only [dSl]
        rw [if_pos hlf, eL, cut4]
      cases hbr : isBr x3 x2 x1 x0 with
      | false =>
        rw [hbr] at hb
        rw [br_no hbr]
        generalize lineD (x0 :: x1 :: x2 :: x3 :: r) = L at hlen hsl
        generalize ((x0 :: x1 :: x2 :: x3 :: r).length : Int) = M at hlen hlt
        simp [runL, b_close_bracket, sSeq, sIf, eOr, eLt, e2, eLen, e1, eVar, eC, bindE, bindS, hlen, hlt, eNot, eCall, eArgs, eSl, oSome, oNone, eNeg, neg4, hsl, bindI, hb, ofRC, sRaise, lentOf]
      | true =>
        rw [hbr] at hb
        obtain ⟨a, b, s, rfl, rfl, rfl, rfl, hs⟩ := br_close (r := r) hbr
        have pre : ∀ T : FS, sSeq (sIf (eOr (eLt (eLen (eVar 0)) (eC (.int 4))) (eNot (eCall (m_is_bracket (n + 1)) [(eSl (eVar 0) (oSome (eNeg (eC (.int 4)))) oNone)]))) (sRaise 1) sNext) T [some (.lent (lineD (.kd b :: .sg s :: .kd a :: .sg 40 :: r))), none, none, none] = T [some (.lent (lineD (.kd b :: .sg s :: .kd a :: .sg 40 :: r))), none, none, none] := fun T => by
          generalize lineD (.kd b :: .sg s :: .kd a :: .sg 40 :: r) = L at hlen hsl
          generalize ((Itm.kd b :: .sg s :: .kd a :: .sg 40 :: r).length : Int) = M at hlen hlt
          simp [sSeq, sIf, eOr, eLt, e2, eLen, e1, eVar, eC, bindE, bindS, hlen, hlt, eNot, eCall, eArgs, eSl, oSome, oNone, eNeg, neg4, hsl, bindI, hb, ofRC, sNext]
        have l3 : lineD (.kd b :: .sg s :: .kd a :: .sg 40 :: r) = (((lineD r ++ [encI (.sg 40)]) ++ [enc a]) ++ [encI (.sg s)]) ++ [enc b] := by simp [lineD, encI]
        have lfa := enc_lf a
        have lfb := enc_lf b
        have hbig : (lineD r).length < big := by
          rw [line_len]
          simp only [List.length_cons] at hl
          exact Nat.lt_of_le_of_lt (by omega : _ ≤ 90000) (by decide)
        have q : ∀ wd : Str, List.lookup (ch s) ([("+", .str "either"), ("*", .str "both")] : List (Str × PyData)) = some (.str wd) → runL 4 (b_close_bracket (m_is_bracket (n + 1))) (lineD (.kd b :: .sg s :: .kd a :: .sg 40 :: r)) = some (none, lineD r ++ [.tuple [.str wd, enc a, enc b]]) := fun wd hw => by
          unfold runL b_close_bracket
          show (match (sSeq _ _ [some (.lent (lineD (.kd b :: .sg s :: .kd a :: .sg 40 :: r))), none, none, none]) with | some (.next ρ) => _ | some (.exc c ρ) => _ | _ => none) = _
          rw [pre, l3]
          have p1 := last_app (((lineD r ++ [encI (.sg 40)]) ++ [enc a]) ++ [encI (.sg s)]) (enc b)
          have p2 := last_app ((lineD r ++ [encI (.sg 40)]) ++ [enc a]) (encI (.sg s))
          have p3 := last_app (lineD r ++ [encI (.sg 40)]) (enc a)
          have p4 := last_app (lineD r) (encI (.sg 40))
          have es : encI (.sg s) = .str (ch s) := rfl
          have n1 : ((0 : Nat) = 1) = False := by simp
          have n2 : ((0 : Nat) = 2) = False := by simp
          have n3 : ((0 : Nat) = 3) = False := by simp
          simp only [sSeq, sPopT, List.getElem?_cons_zero, p1, p2, p3, p4, List.dropLast_concat, n1, n2, n3, if_false, List.set_cons_zero, List.set_cons_succ]
          simp only [sPopTX, List.getElem?_cons_zero, p4, List.dropLast_concat, List.set_cons_zero]
          simp [sAppendT, eTup, eArgs, eKdix, eVar, bindE, bindI, bindS, es, hw, lf, lfs, lfa, lfb, hbig, lentOf]
        rcases hs with ⟨rfl, hs⟩ | ⟨rfl, hs⟩
        · rw [hs, q "either" (by rw [s_pl, s_ti]; simp [List.lookup_cons])]
          simp [line_cons, encI, enc]
        · rw [hs, q "both" (by rw [s_pl, s_ti]; simp [List.lookup_cons, ch_eq])]
          simp [line_cons, encI, enc]
/-! ### read -/
def readBody (n : Nat) : FS := (sIf (eKdin false leavesD (eVar 2)) (sAppend 1 (eKdix leavesD (eVar 2))) (sIf (eEq (eVar 2) (eC (.str ")"))) (sCallL (m_close_bracket n) 1) (sAppend 1 (eVar 2))))
theorem step_asc {R R' : List Itm} {c : Nat} (h : stepR R c = some R') (hR : ∀ x ∈ R, asc x) (hc : c < 128) : (∀ x ∈ R', asc x) ∧ R'.length ≤ R.length + 1 := by
  unfold stepR at h
  cases hk : leafK c with
  | some k =>
    rw [hk] at h
    cases h
    refine ⟨fun x hx => ?_, by simp⟩
    rcases List.mem_cons.mp hx with rfl | hx
    · intro j e; cases e
    · exact hR x hx
  | none =>
    rw [hk] at h
    simp only at h
    split at h
    · unfold closeR at h
      split at h
      · rename_i b s a p r
        have hr : ∀ x ∈ r, asc x := fun x hx => hR x (by simp [hx])
        split at h
        · split at h
          · cases h
            refine ⟨fun x hx => ?_, by simp only [List.length_cons]; omega⟩
            rcases List.mem_cons.mp hx with rfl | hx
            · intro j e; cases e
            · exact hr x hx
          · split at h
            · cases h
              refine ⟨fun x hx => ?_, by simp only [List.length_cons]; omega⟩
              rcases List.mem_cons.mp hx with rfl | hx
              · intro j e; cases e
              · exact hr x hx
            · cases h
        · cases h
      · cases h
    · cases h
      refine ⟨fun x hx => ?_, by simp⟩
      rcases List.mem_cons.mp hx with rfl | hx
      · intro j e; cases e; exact hc
      · exact hR x hx
theorem read_step (n : Nat) (x0 : Option Slot) (R : List Itm) (c : Nat) (hR : ∀ x ∈ R, asc x) (hl : R.length ≤ 90000) (hc : c < 128) : readBody (n + 2) [x0, some (.own (lineD R)), some (.loc (.str (ch c)))] = match stepR R c with
    | some R' => some (.next [x0, some (.own (lineD R')), some (.loc (.str (ch c)))])
    | none => some (.exc 1 [x0, some (.own (lineD R)), some (.loc (.str (ch c)))]) := by
  have hk := look_leaf c
  have hbig : (lineD R).length < big := by rw [line_len]; exact Nat.lt_of_le_of_lt hl (by decide)
  have hcl := close_ok n R hR hl
  unfold stepR readBody
  generalize leavesD = LV at hk
  cases h : leafK c with
  | some k =>
    rw [h] at hk
    have lk := enc_lf k
    show _ = some (RS.next [x0, some (.own (lineD (.kd k :: R))), some (.loc (.str (ch c)))])
    rw [line_cons]
    simp only [encI]
    generalize lineD R = L at hbig
    simp [sIf, eKdin, eKdix, eVar, bindE, bindS, hk, sAppend, lk, hbig]
  | none =>
    rw [h] at hk
    have eq : dEq (.str (ch c)) (.str ")") = some (.bool (c == 41)) := by rw [s_cl, eqSS, ch_eq]
    by_cases hc : c = 41
    · subst hc
      simp only [if_true]
      cases hcr : closeR R with
      | some R' =>
        rw [hcr] at hcl
        simp only at hcl
        show _ = some (RS.next [x0, some (.own (lineD R')), some (.loc (.str (ch 41)))])
        generalize lineD R' = L' at hcl
        generalize lineD R = L at hbig hcl
        simp [sIf, eKdin, eVar, eC, eEq, e2, eq, bindE, bindS, hk, sCallL, hcl]
      | none =>
        rw [hcr] at hcl
        simp only at hcl
        show _ = some (RS.exc 1 [x0, some (.own (lineD R)), some (.loc (.str (ch 41)))])
        generalize lineD R = L at hbig hcl
        simp [sIf, eKdin, eVar, eC, eEq, e2, eq, bindE, bindS, hk, sCallL, hcl]
    · rw [beq_eq_false_iff_ne.mpr hc] at eq
      rw [if_neg hc]
      show _ = some (RS.next [x0, some (.own (lineD (.sg c :: R))), some (.loc (.str (ch c)))])
      rw [line_cons]
      simp only [encI]
      generalize lineD R = L at hbig
      simp [sIf, eKdin, eVar, eC, eEq, e2, eq, bindE, bindS, hk, sAppend, lf, hbig]
theorem read_walk (n : Nat) (x0 : Option Slot) : ∀ (cs : List Nat) (R : List Itm) (x2 : Option Slot), (∀ c ∈ cs, c < 128) → (∀ x ∈ R, asc x) → R.length + cs.length ≤ 90000 →
    ∃ y2, (match runR cs R with
      | some R' => forGo (tgName 2) (readBody (n + 2)) (cs.map fun c => .str (ch c)) [x0, some (.own (lineD R)), x2] = some (.next [x0, some (.own (lineD R')), y2])
      | none => ∃ y1, forGo (tgName 2) (readBody (n + 2)) (cs.map fun c => .str (ch c)) [x0, some (.own (lineD R)), x2] = some (.exc 1 [x0, y1, y2]))
  | [], R, x2, _, _, _ => ⟨x2, rfl⟩
  | c :: cs, R, x2, hcs, hR, hl => by
    have hs := read_step n x0 R c hR (by simp at hl; omega) (hcs c (List.mem_cons_self ..))
    simp only [runR]
    rw [List.map_cons]
    cases h : stepR R c with
    | none =>
      rw [h] at hs
      simp only at hs
      exact ⟨some (.loc (.str (ch c))), some (.own (lineD R)), by simp [forGo, tgName, hs]⟩
    | some R1 =>
      rw [h] at hs
      simp only at hs
      obtain ⟨h1, h2⟩ := step_asc h hR (hcs c (List.mem_cons_self ..))
      obtain ⟨y2, ih⟩ := read_walk n x0 cs R1 (some (.loc (.str (ch c)))) (fun q hq => hcs q (List.mem_cons_of_mem _ hq)) h1 (by simp only [List.length_cons] at hl; omega)
      refine ⟨y2, ?_⟩
      have e : forGo (tgName 2) (readBody (n + 2)) (.str (ch c) :: cs.map fun c => .str (ch c)) [x0, some (.own (lineD R)), x2] = forGo (tgName 2) (readBody (n + 2)) (cs.map fun c => .str (ch c)) [x0, some (.own (lineD R1)), some (.loc (.str (ch c)))] := by
        conv => lhs; unfold forGo
        have t0 : tgName 2 (.str (ch c)) [x0, some (.own (lineD R)), x2] = some [x0, some (.own (lineD R)), some (.loc (.str (ch c)))] := rfl
        rw [t0]
        dsimp only
        rw [hs]
      simp only [Option.bind_some]
      rw [e]
      exact ih
theorem read_ok (n : Nat) (z : Str) (hz : z.length ≤ 90000) (ha : ∀ c ∈ z.cps.toList, c < 128) : m_read (n + 3) [.str z] = match readR z.cps.toList with
    | some k => some (.ok (enc k))
    | none => some (.exc 1) := by
  show runB 3 (sSeq (sSet 1 (eLst [])) (sSeq (sFor (iText (eVar 0)) (tgName 2) (readBody (n + 2))) (sSeq (sIf (eOr (eNe (eLen (eVar 1)) (eC (.int 1))) (eNot (eIs .tuple (eIx (eVar 1) (eC (.int 0)))))) (sRaise 1) sNext) (sRet (eIx (eVar 1) (eC (.int 0))))))) [.str z] = _
  obtain ⟨y2, hw⟩ := read_walk n (some (.par (.str z))) z.cps.toList [] none ha (by simp) (by simpa [Str.length] using hz)
  have e0 : lineD [] = [] := rfl
  rw [e0] at hw
  have ec : charsD z = z.cps.toList.map fun c => .str (ch c) := rfl
  unfold readR
  generalize readBody (n + 2) = RB at hw
  cases hr : runR z.cps.toList [] with
  | none =>
    rw [hr] at hw
    obtain ⟨y1, hw⟩ := hw
    rw [← ec] at hw
    simp [runB, sSeq, sSet, eLst, eArgs, bindI, bindS, lfs, asg, lf, sFor, iText, eVar, hw]
  | some R' =>
    rw [hr] at hw
    simp only at hw
    rw [← ec] at hw
    have hlf := line_lf R'
    have fin : ∀ T : FS, runB 3 (sSeq (sSet 1 (eLst [])) (sSeq (sFor (iText (eVar 0)) (tgName 2) RB) T)) [.str z] = (match T [some (.par (.str z)), some (.own (lineD R')), y2] with
        | some (.ret d) => some (.ok d)
        | some (.next _) => some (.ok .none)
        | some (.exc c _) => some (.exc c)
        | _ => none) := fun T => by
      simp [runB, sSeq, sSet, eLst, eArgs, bindI, bindS, lfs, asg, lf, sFor, iText, eVar, hw] <;> rfl
    rw [fin]
    have hlen : dLen (.list (lineD R')) = some (.int (R'.length : Int)) := by simp [dLen, line_len]
    match R', hlen with
    | [], _ => rfl
    | [x], hlen =>
      have i0 : dIx (.list (lineD [x])) (.int 0) = some (encI x) := rfl
      have ix := is_itm x
      cases x with
      | kd k =>
        simp only [encI] at i0 ix
        have lk := enc_lf k
        show _ = some (RC.ok (enc k))
        generalize lineD [.kd k] = L at hlen i0
        generalize enc k = EK at i0 ix lk
        simp [sSeq, sIf, eOr, eNe, e2, eLen, e1, eVar, eC, bindE, bindS, hlen, neII, eNot, eIs, eIx, i0, ix, isKd, sNext, sRet, lk]
      | sg c =>
        simp only [encI] at i0 ix
        show _ = some (RC.exc 1)
        generalize lineD [.sg c] = L at hlen i0
        simp [sSeq, sIf, eOr, eNe, e2, eLen, e1, eVar, eC, bindE, bindS, hlen, neII, eNot, eIs, eIx, i0, ix, isKd, sRaise]
    | x :: y :: r, hlen =>
      have hne : dNe (.int ((x :: y :: r).length : Int)) (.int 1) = some (.bool true) := by
        rw [neII]
        simp
        omega
      have main : ∀ (L : List PyData) (M : Int), dLen (.list L) = some (.int M) → dNe (.int M) (.int 1) = some (.bool true) → (match (sSeq (sIf (eOr (eNe (eLen (eVar 1)) (eC (.int 1))) (eNot (eIs .tuple (eIx (eVar 1) (eC (.int 0)))))) (sRaise 1) sNext) (sRet (eIx (eVar 1) (eC (.int 0))))) [some (.par (.str z)), some (.own L), y2] with
          | some (.ret d) => some (RC.ok d)
          | some (.next _) => some (.ok .none)
          | some (.exc c _) => some (.exc c)
          | _ => none) = some (RC.exc 1) := fun L M hlen hne => by
        simp [sSeq, sIf, eOr, eNe, e2, eLen, e1, eVar, eC, bindE, bindS, hlen, hne, sRaise]
      cases x with
      | kd _ => exact main _ _ hlen hne
      | sg _ => exact main _ _ hlen hne
end KT
set_option Elab.async false
set_option linter.all false
set_option maxRecDepth 100000
namespace KT
open PySem
/-! ### the text of a kind -/
def textK : Kd → Str
  | .none => "0"
  | .one => "1"
  | .name i => ch (97 + i.toNat)
  | .either a b => ((("(" ++ textK a) ++ "+") ++ textK b) ++ ")"
  | .both a b => ((("(" ++ textK a) ++ "*") ++ textK b) ++ ")"
theorem slen (x y : Str) : (x ++ y).length = x.length + y.length := by
  show (x.cps ++ y.cps).size = _
  simp [Str.length]
theorem l1 (c : Nat) : (ch c).length = 1 := rfl
theorem text_len : ∀ k : Kd, (textK k).length + 3 ≤ 4 * k.leaves
  | .none => by rw [show textK .none = ch 48 from s_0]; simp [l1, Kd.leaves]
  | .one => by rw [show textK .one = ch 49 from s_1]; simp [l1, Kd.leaves]
  | .name i => by simp [textK, l1, Kd.leaves]
  | .either a b => by
    have := text_len a; have := text_len b
    simp only [textK, slen, Kd.leaves, s_op, s_cl, s_pl, l1]
    omega
  | .both a b => by
    have := text_len a; have := text_len b
    simp only [textK, slen, Kd.leaves, s_op, s_cl, s_ti, l1]
    omega
def cps (x : Str) : List Nat := x.cps.toList
theorem cps_app (x y : Str) : cps (x ++ y) = cps x ++ cps y := by
  show (x.cps ++ y.cps).toList = _
  simp [cps]
theorem cps_ch (c : Nat) : cps (ch c) = [c] := rfl
theorem text_asc : ∀ k : Kd, k.Ok → ∀ c ∈ cps (textK k), c < 128
  | .none, _ => by rw [show textK .none = ch 48 from s_0, cps_ch]; simp
  | .one, _ => by rw [show textK .one = ch 49 from s_1, cps_ch]; simp
  | .name i, h => by
    have h' : 0 ≤ i ∧ i ≤ 3 := h
    simp only [textK, cps_ch, List.mem_singleton]
    intro c hc
    omega
  | .either a b, h => by
    have ha := text_asc a h.1
    have hb := text_asc b h.2
    simp only [textK, cps_app, s_op, s_cl, s_pl, cps_ch, List.mem_append, List.mem_singleton]
    rintro c ((((rfl | hc) | rfl) | hc) | rfl)
    · decide
    · exact ha c hc
    · decide
    · exact hb c hc
    · decide
  | .both a b, h => by
    have ha := text_asc a h.1
    have hb := text_asc b h.2
    simp only [textK, cps_app, s_op, s_cl, s_ti, cps_ch, List.mem_append, List.mem_singleton]
    rintro c ((((rfl | hc) | rfl) | hc) | rfl)
    · decide
    · exact ha c hc
    · decide
    · exact hb c hc
    · decide
theorem leaf_name {i : Int} (h0 : 0 ≤ i) (h4 : i < 4) : leafK (97 + i.toNat) = some (.name i) := by
  have : i = 0 ∨ i = 1 ∨ i = 2 ∨ i = 3 := by omega
  rcases this with rfl | rfl | rfl | rfl <;> rfl
theorem run_text : ∀ (k : Kd), k.Ok → ∀ (cs : List Nat) (R : List Itm), runR (cps (textK k) ++ cs) R = runR cs (.kd k :: R)
  | .none, _, cs, R => by rw [show textK .none = ch 48 from s_0, cps_ch]; rfl
  | .one, _, cs, R => by rw [show textK .one = ch 49 from s_1, cps_ch]; rfl
  | .name i, h, cs, R => by
    have e := leaf_name h.1 (by have := h.2; omega : i < 4)
    simp only [textK, cps_ch, List.cons_append, List.nil_append, runR, stepR, e, Option.bind_some]
  | .either a b, h, cs, R => by
    simp only [textK, cps_app, s_op, s_cl, s_pl, cps_ch, List.append_assoc, List.cons_append, List.nil_append]
    show (stepR R 40).bind (runR _) = _
    rw [show stepR R 40 = some (.sg 40 :: R) from rfl, Option.bind_some, run_text a h.1]
    show (stepR _ 43).bind (runR _) = _
    rw [show ∀ Q, stepR Q 43 = some (.sg 43 :: Q) from fun _ => rfl, Option.bind_some, run_text b h.2]
    rfl
  | .both a b, h, cs, R => by
    simp only [textK, cps_app, s_op, s_cl, s_ti, cps_ch, List.append_assoc, List.cons_append, List.nil_append]
    show (stepR R 40).bind (runR _) = _
    rw [show stepR R 40 = some (.sg 40 :: R) from rfl, Option.bind_some, run_text a h.1]
    show (stepR _ 42).bind (runR _) = _
    rw [show ∀ Q, stepR Q 42 = some (.sg 42 :: Q) from fun _ => rfl, Option.bind_some, run_text b h.2]
    rfl
theorem readR_text (k : Kd) (h : k.Ok) : readR (cps (textK k)) = some k := by
  have := run_text k h [] []
  rw [List.append_nil] at this
  unfold readR
  rw [this]
  rfl
theorem s_abcd : ("abcd" : Str) = ⟨#[97, 98, 99, 100]⟩ := by decide +kernel
theorem abcd_at {i : Int} (h0 : 0 ≤ i) (h4 : i < 4) : dIx (.str "abcd") (.int i) = some (.str (ch (97 + i.toNat))) := by
  rw [s_abcd]
  have : i = 0 ∨ i = 1 ∨ i = 2 ∨ i = 3 := by omega
  rcases this with rfl | rfl | rfl | rfl <;> rfl
theorem addSS {x y : Str} (h : x.length + y.length ≤ big) : dAdd (.str x) (.str y) = some (.str (x ++ y)) := if_pos h
theorem text_ok : ∀ (k : Kd) (n : Nat), k.leaves ≤ n → k.leaves ≤ 1000 → k.Ok → m_law_text n [enc k] = some (.ok (.str (textK k)))
  | k, 0, h, _, _ => by have := k.pos; omega
  | .none, n + 1, _, _, _ => by
    have e := abcd_at (i := 0) (by decide) (by decide)
    have l : List.lookup ("none" : Str) [(("none" : Str), PyData.str "0"), (("one" : Str), PyData.str "1")] = some (.str "0") := by simp [List.lookup]
    have d0 : dIx (.tuple [.str "none"]) (.int 0) = some (.str "none") := rfl
    have dl : dLen (.tuple [.str "none"]) = some (.int 1) := rfl
    unfold m_law_text
    simp [runB, sSeq, sSet, sIf, sRet, sNext, sExpr, eVar, eC, e1, e2, eAdd, eSub, eMul, eDiv, eMod, eNeg, eEq, eNe, eLt, eLe, eGt, eGe, eIn, eNotIn, eIx, eLen, eInt, eIs, eAnd, eOr, eNot, eIf, eTup, eLst, eArgs, eCall, bindE, bindI, bindS, ofRC, b_law_text, enc, d0, dl, lf, lfs, dLt, eqII, eDget, e, textK, l]
  | .one, n + 1, _, _, _ => by
    have e := abcd_at (i := 0) (by decide) (by decide)
    have l : List.lookup ("one" : Str) [(("none" : Str), PyData.str "0"), (("one" : Str), PyData.str "1")] = some (.str "1") := by simp [List.lookup, w08]
    have d0 : dIx (.tuple [.str "one"]) (.int 0) = some (.str "one") := rfl
    have dl : dLen (.tuple [.str "one"]) = some (.int 1) := rfl
    unfold m_law_text
    simp [runB, sSeq, sSet, sIf, sRet, sNext, sExpr, eVar, eC, e1, e2, eAdd, eSub, eMul, eDiv, eMod, eNeg, eEq, eNe, eLt, eLe, eGt, eGe, eIn, eNotIn, eIx, eLen, eInt, eIs, eAnd, eOr, eNot, eIf, eTup, eLst, eArgs, eCall, bindE, bindI, bindS, ofRC, b_law_text, enc, d0, dl, lf, lfs, dLt, eqII, eDget, e, textK, l]
  | .name i, n + 1, _, _, ⟨h0, h3⟩ => by
    have e := abcd_at (i := i) h0 (by omega)
    have l : List.lookup ("name" : Str) [(("none" : Str), PyData.str "0"), (("one" : Str), PyData.str "1")] = none := by simp [List.lookup, w09, w10]
    have d0 : dIx (.tuple [.str "name", .int i]) (.int 0) = some (.str "name") := rfl
    have d1 : dIx (.tuple [.str "name", .int i]) (.int (-1)) = some (.int i) := rfl
    have dl : dLen (.tuple [.str "name", .int i]) = some (.int 2) := rfl
    have dn : dNeg (.int 1) = some (.int (-1)) := rfl
    unfold m_law_text
    simp [runB, sSeq, sSet, sIf, sRet, sNext, sExpr, eVar, eC, e1, e2, eAdd, eSub, eMul, eDiv, eMod, eNeg, eEq, eNe, eLt, eLe, eGt, eGe, eIn, eNotIn, eIx, eLen, eInt, eIs, eAnd, eOr, eNot, eIf, eTup, eLst, eArgs, eCall, bindE, bindI, bindS, ofRC, b_law_text, enc, d0, d1, dl, dn, lf, lfs, dLt, eqII, eDget, e, textK, l]
  | .either a b, n + 1, hn, h6, ⟨oa, ob⟩ => by
    have pa := a.pos
    have pb := b.pos
    simp only [Kd.leaves] at hn h6
    have ea := text_ok a n (by omega) (by omega) oa
    have eb := text_ok b n (by omega) (by omega) ob
    have la := text_len a
    have lb := text_len b
    have l : List.lookup ("either" : Str) [(("either" : Str), PyData.str "+"), (("both" : Str), PyData.str "*")] = some (.str "+") := by simp [List.lookup]
    have d0 : dIx (.tuple [.str "either", enc a, enc b]) (.int 0) = some (.str "either") := rfl
    have d1 : dIx (.tuple [.str "either", enc a, enc b]) (.int 1) = some (enc a) := rfl
    have d2 : dIx (.tuple [.str "either", enc a, enc b]) (.int 2) = some (enc b) := rfl
    have dl : dLen (.tuple [.str "either", enc a, enc b]) = some (.int 3) := rfl
    have hb : 10000 ≤ big := by decide
    have a1 : dAdd (.str "(") (.str (textK a)) = some (.str ("(" ++ textK a)) := addSS (by rw [s_op, l1]; omega)
    have a2 : dAdd (.str ("(" ++ textK a)) (.str "+") = some (.str (("(" ++ textK a) ++ "+")) := addSS (by rw [slen, s_op, s_pl, l1, l1]; omega)
    have a3 : dAdd (.str (("(" ++ textK a) ++ "+")) (.str (textK b)) = some (.str ((("(" ++ textK a) ++ "+") ++ textK b)) := addSS (by rw [slen, slen, s_op, s_pl, l1, l1]; omega)
    have a4 : dAdd (.str ((("(" ++ textK a) ++ "+") ++ textK b)) (.str ")") = some (.str (((("(" ++ textK a) ++ "+") ++ textK b) ++ ")")) := addSS (by rw [slen, slen, slen, s_op, s_pl, s_cl, l1, l1, l1]; omega)
    show runB 1 (b_law_text (m_law_text n)) [.tuple [.str "either", enc a, enc b]] = _
    simp only [textK]
    generalize ((("(" ++ textK a) ++ "+") ++ textK b) ++ ")" = T4 at a4
    generalize (("(" ++ textK a) ++ "+") ++ textK b = T3 at a3 a4
    generalize ("(" ++ textK a) ++ "+" = T2 at a2 a3
    generalize "(" ++ textK a = T1 at a1 a2
    generalize textK a = TA at ea a1
    generalize textK b = TB at eb a3
    generalize PyData.tuple [.str "either", enc a, enc b] = D at d0 d1 d2 dl
    simp [runB, sSeq, sSet, sIf, sRet, sNext, sExpr, eVar, eC, e1, e2, eAdd, eSub, eMul, eDiv, eMod, eNeg, eEq, eNe, eLt, eLe, eGt, eGe, eIn, eNotIn, eIx, eLen, eInt, eIs, eAnd, eOr, eNot, eIf, eTup, eLst, eArgs, eCall, bindE, bindI, bindS, ofRC, b_law_text, d0, d1, d2, dl, lf, lfs, dLt, eDix, l, ea, eb, a1, a2, a3, a4]
  | .both a b, n + 1, hn, h6, ⟨oa, ob⟩ => by
    have pa := a.pos
    have pb := b.pos
    simp only [Kd.leaves] at hn h6
    have ea := text_ok a n (by omega) (by omega) oa
    have eb := text_ok b n (by omega) (by omega) ob
    have la := text_len a
    have lb := text_len b
    have l : List.lookup ("both" : Str) [(("either" : Str), PyData.str "+"), (("both" : Str), PyData.str "*")] = some (.str "*") := by simp [List.lookup, w07]
    have d0 : dIx (.tuple [.str "both", enc a, enc b]) (.int 0) = some (.str "both") := rfl
    have d1 : dIx (.tuple [.str "both", enc a, enc b]) (.int 1) = some (enc a) := rfl
    have d2 : dIx (.tuple [.str "both", enc a, enc b]) (.int 2) = some (enc b) := rfl
    have dl : dLen (.tuple [.str "both", enc a, enc b]) = some (.int 3) := rfl
    have hb : 10000 ≤ big := by decide
    have a1 : dAdd (.str "(") (.str (textK a)) = some (.str ("(" ++ textK a)) := addSS (by rw [s_op, l1]; omega)
    have a2 : dAdd (.str ("(" ++ textK a)) (.str "*") = some (.str (("(" ++ textK a) ++ "*")) := addSS (by rw [slen, s_op, s_ti, l1, l1]; omega)
    have a3 : dAdd (.str (("(" ++ textK a) ++ "*")) (.str (textK b)) = some (.str ((("(" ++ textK a) ++ "*") ++ textK b)) := addSS (by rw [slen, slen, s_op, s_ti, l1, l1]; omega)
    have a4 : dAdd (.str ((("(" ++ textK a) ++ "*") ++ textK b)) (.str ")") = some (.str (((("(" ++ textK a) ++ "*") ++ textK b) ++ ")")) := addSS (by rw [slen, slen, slen, s_op, s_ti, s_cl, l1, l1, l1]; omega)
    show runB 1 (b_law_text (m_law_text n)) [.tuple [.str "both", enc a, enc b]] = _
    simp only [textK]
    generalize ((("(" ++ textK a) ++ "*") ++ textK b) ++ ")" = T4 at a4
    generalize (("(" ++ textK a) ++ "*") ++ textK b = T3 at a3 a4
    generalize ("(" ++ textK a) ++ "*" = T2 at a2 a3
    generalize "(" ++ textK a = T1 at a1 a2
    generalize textK a = TA at ea a1
    generalize textK b = TB at eb a3
    generalize PyData.tuple [.str "both", enc a, enc b] = D at d0 d1 d2 dl
    simp [runB, sSeq, sSet, sIf, sRet, sNext, sExpr, eVar, eC, e1, e2, eAdd, eSub, eMul, eDiv, eMod, eNeg, eEq, eNe, eLt, eLe, eGt, eGe, eIn, eNotIn, eIx, eLen, eInt, eIs, eAnd, eOr, eNot, eIf, eTup, eLst, eArgs, eCall, bindE, bindI, bindS, ofRC, b_law_text, d0, d1, d2, dl, lf, lfs, dLt, eDix, l, ea, eb, a1, a2, a3, a4]
end KT
set_option Elab.async false
set_option linter.all false
set_option maxRecDepth 100000
namespace KT
open PySem
/-! ### the law's own reader -/
def scanL : List Nat → Nat → Int → Option (Nat × Nat)
  | [], _, _ => none
  | c :: S, j, d => if (if c = 40 then d + 1 else if c = 41 then d - 1 else d) = 0 ∧ (c = 43 ∨ c = 42) then some (j, c) else scanL S (j + 1) (if c = 40 then d + 1 else if c = 41 then d - 1 else d)
def nodeK (op : Nat) (a b : Kd) : Kd := if op = 43 then .either a b else .both a b
def midL : List Nat → Option (List Nat)
  | 40 :: r => if r.getLast? = some 41 then some r.dropLast else none
  | _ => none
def dueR : Nat → List Nat → Option Kd
  | 0, _ => none
  | n + 1, cs => if cs.length = 1 then leafK (cs.headD 0) else (midL cs).bind fun M => (scanL M 0 0).bind fun h => (dueR n (M.take h.1)).bind fun a => (dueR n (M.drop (h.1 + 1))).map fun b => nodeK h.2 a b
def textC (k : Kd) : List Nat := cps (textK k)
theorem textC_either (a b : Kd) : textC (.either a b) = 40 :: (textC a ++ 43 :: (textC b ++ [41])) := by
  simp only [textC, textK, cps_app, s_op, s_cl, s_pl, cps_ch, List.append_assoc, List.cons_append, List.nil_append]
theorem textC_both (a b : Kd) : textC (.both a b) = 40 :: (textC a ++ 42 :: (textC b ++ [41])) := by
  simp only [textC, textK, cps_app, s_op, s_cl, s_ti, cps_ch, List.append_assoc, List.cons_append, List.nil_append]
theorem textC_none : textC .none = [48] := by simp only [textC]; rw [show textK .none = ch 48 from s_0, cps_ch]
theorem textC_one : textC .one = [49] := by simp only [textC]; rw [show textK .one = ch 49 from s_1, cps_ch]
theorem textC_name (i : Int) : textC (.name i) = [97 + i.toNat] := rfl
theorem leaf_text {c : Nat} {k : Kd} (h : leafK c = some k) : k.Ok ∧ textC k = [c] := by
  unfold leafK at h
  split at h <;> first
    | (cases h; exact ⟨trivial, textC_none⟩)
    | (cases h; exact ⟨trivial, textC_one⟩)
    | (cases h; exact ⟨⟨by decide, by decide⟩, rfl⟩)
    | cases h
theorem scan_text : ∀ (k : Kd), k.Ok → ∀ (S : List Nat) (j : Nat) (d : Int), 0 ≤ d → scanL (textC k ++ S) j d = scanL S (j + (textC k).length) d
  | .none, _, S, j, d, hd => by rw [textC_none]; simp [scanL]
  | .one, _, S, j, d, hd => by rw [textC_one]; simp [scanL]
  | .name i, h, S, j, d, hd => by
    have h' : 0 ≤ i ∧ i ≤ 3 := h
    rw [textC_name]
    have h1 : ¬ 97 + i.toNat = 40 := by omega
    have h2 : ¬ 97 + i.toNat = 41 := by omega
    have h3 : ¬ (97 + i.toNat = 43 ∨ 97 + i.toNat = 42) := by omega
    simp only [List.cons_append, List.nil_append, scanL, h1, h2, h3, if_false, and_false, List.length_cons, List.length_nil]
  | .either a b, h, S, j, d, hd => by
    rw [textC_either]
    have ea : ∀ S j, scanL (textC a ++ S) j (d + 1) = scanL S (j + (textC a).length) (d + 1) := fun S j => scan_text a h.1 S j (d + 1) (by omega)
    have eb : ∀ S j, scanL (textC b ++ S) j (d + 1) = scanL S (j + (textC b).length) (d + 1) := fun S j => scan_text b h.2 S j (d + 1) (by omega)
    have hd1 : ¬ (d + 1 = 0) := by omega
    simp only [List.cons_append, List.append_assoc]
    rw [scanL]
    simp only [if_true, hd1, false_and, if_false]
    rw [ea, scanL]
    simp only [show ¬ (43 : Nat) = 40 by decide, show ¬ (43 : Nat) = 41 by decide, if_false, hd1, false_and]
    rw [eb, List.nil_append, scanL]
    simp only [show ¬ (41 : Nat) = 40 by decide, if_false, if_true, show ¬ ((41 : Nat) = 43 ∨ (41 : Nat) = 42) by decide, and_false]
    have e : d + 1 - 1 = d := by omega
    rw [e]
    congr 1
    simp
    omega
  | .both a b, h, S, j, d, hd => by
    rw [textC_both]
    have ea : ∀ S j, scanL (textC a ++ S) j (d + 1) = scanL S (j + (textC a).length) (d + 1) := fun S j => scan_text a h.1 S j (d + 1) (by omega)
    have eb : ∀ S j, scanL (textC b ++ S) j (d + 1) = scanL S (j + (textC b).length) (d + 1) := fun S j => scan_text b h.2 S j (d + 1) (by omega)
    have hd1 : ¬ (d + 1 = 0) := by omega
    simp only [List.cons_append, List.append_assoc]
    rw [scanL]
    simp only [if_true, hd1, false_and, if_false]
    rw [ea, scanL]
    simp only [show ¬ (42 : Nat) = 40 by decide, show ¬ (42 : Nat) = 41 by decide, if_false, hd1, false_and]
    rw [eb, List.nil_append, scanL]
    simp only [show ¬ (41 : Nat) = 40 by decide, if_false, if_true, show ¬ ((41 : Nat) = 43 ∨ (41 : Nat) = 42) by decide, and_false]
    have e : d + 1 - 1 = d := by omega
    rw [e]
    congr 1
    simp
    omega
theorem textC_pos : ∀ k : Kd, 0 < (textC k).length
  | .none => by rw [textC_none]; simp
  | .one => by rw [textC_one]; simp
  | .name _ => by rw [textC_name]; simp
  | .either a b => by rw [textC_either]; simp
  | .both a b => by rw [textC_both]; simp
theorem mid_of (M : List Nat) : midL (40 :: (M ++ [41])) = some M := by
  unfold midL
  simp
theorem due_text : ∀ (k : Kd) (n : Nat), k.Ok → (textC k).length < n → dueR n (textC k) = some k
  | k, 0, _, h => by omega
  | .none, n + 1, _, _ => by rw [textC_none]; rfl
  | .one, n + 1, _, _ => by rw [textC_one]; rfl
  | .name i, n + 1, h, _ => by
    rw [textC_name]
    simp only [dueR, List.length_cons, List.length_nil, Nat.zero_add, if_true, List.headD_cons]
    exact leaf_name h.1 (by have := h.2; omega)
  | .either a b, n + 1, h, hl => by
    have pa := textC_pos a
    rw [textC_either] at hl ⊢
    simp only [List.length_cons, List.length_append, List.length_nil] at hl
    have ia := due_text a n h.1 (by omega)
    have ib := due_text b n h.2 (by omega)
    have eM : 40 :: (textC a ++ 43 :: (textC b ++ [41])) = 40 :: ((textC a ++ 43 :: textC b) ++ [41]) := by simp
    have hs : scanL (textC a ++ 43 :: textC b) 0 0 = some ((textC a).length, 43) := by
      rw [scan_text a h.1 _ _ _ (by decide), scanL]
      simp
    rw [eM]
    unfold dueR
    rw [if_neg (by simp), mid_of, Option.bind_some, hs, Option.bind_some]
    have e1 : (textC a ++ 43 :: textC b).take (textC a).length = textC a := by simp
    have e2 : (textC a ++ 43 :: textC b).drop ((textC a).length + 1) = textC b := by
      rw [← List.drop_drop]; simp
    simp only [e1, e2, ia, ib]
    rfl
  | .both a b, n + 1, h, hl => by
    have pa := textC_pos a
    rw [textC_both] at hl ⊢
    simp only [List.length_cons, List.length_append, List.length_nil] at hl
    have ia := due_text a n h.1 (by omega)
    have ib := due_text b n h.2 (by omega)
    have eM : 40 :: (textC a ++ 42 :: (textC b ++ [41])) = 40 :: ((textC a ++ 42 :: textC b) ++ [41]) := by simp
    have hs : scanL (textC a ++ 42 :: textC b) 0 0 = some ((textC a).length, 42) := by
      rw [scan_text a h.1 _ _ _ (by decide), scanL]
      simp
    rw [eM]
    unfold dueR
    rw [if_neg (by simp), mid_of, Option.bind_some, hs, Option.bind_some]
    have e1 : (textC a ++ 42 :: textC b).take (textC a).length = textC a := by simp
    have e2 : (textC a ++ 42 :: textC b).drop ((textC a).length + 1) = textC b := by
      rw [← List.drop_drop]; simp
    simp only [e1, e2, ia, ib]
    rfl
theorem scan_hit : ∀ (S : List Nat) (j : Nat) (d : Int) (i op : Nat), scanL S j d = some (i, op) → ∃ m, i = j + m ∧ S[m]? = some op ∧ (op = 43 ∨ op = 42)
  | [], _, _, _, _, h => by cases h
  | c :: S, j, d, i, op, h => by
    unfold scanL at h
    generalize (if c = 40 then d + 1 else if c = 41 then d - 1 else d) = d' at h
    by_cases hc : d' = 0 ∧ (c = 43 ∨ c = 42)
    · rw [if_pos hc] at h
      cases h
      exact ⟨0, rfl, rfl, hc.2⟩
    · rw [if_neg hc] at h
      obtain ⟨m, e1, e2, e3⟩ := scan_hit S (j + 1) _ i op h
      exact ⟨m + 1, by omega, by simpa using e2, e3⟩
theorem mid_is {cs M : List Nat} (h : midL cs = some M) : cs = 40 :: (M ++ [41]) := by
  unfold midL at h
  split at h
  · rename_i r
    split at h
    · rename_i hl
      cases h
      congr 1
      have hne : r ≠ [] := by intro z; subst z; simp at hl
      have : r.getLast hne = 41 := by
        rw [List.getLast?_eq_some_getLast hne] at hl
        exact Option.some.inj hl
      rw [← this]
      exact (List.dropLast_concat_getLast hne).symm
    · cases h
  · cases h
theorem take_drop {M : List Nat} {m op : Nat} (h : M[m]? = some op) : M = M.take m ++ op :: M.drop (m + 1) := by
  obtain ⟨hlt, e⟩ := List.getElem?_eq_some_iff.mp h
  rw [← e, ← List.drop_eq_getElem_cons hlt, List.take_append_drop]
theorem due_is : ∀ (n : Nat) (cs : List Nat) (k : Kd), dueR n cs = some k → k.Ok ∧ cs = textC k
  | 0, _, _, h => by cases h
  | n + 1, cs, k, h => by
    unfold dueR at h
    split at h
    · rename_i hl
      obtain ⟨c, rfl⟩ := List.length_eq_one_iff.mp hl
      obtain ⟨h1, h2⟩ := leaf_text (c := c) h
      exact ⟨h1, h2.symm⟩
    · cases hm : midL cs with
      | none => rw [hm] at h; cases h
      | some M =>
        rw [hm, Option.bind_some] at h
        cases hs : scanL M 0 0 with
        | none => rw [hs] at h; cases h
        | some q =>
          obtain ⟨i, op⟩ := q
          rw [hs, Option.bind_some] at h
          obtain ⟨m, e1, e2, e3⟩ := scan_hit M 0 0 i op hs
          rw [Nat.zero_add] at e1
          subst e1
          cases ha : dueR n (M.take i) with
          | none => rw [ha] at h; cases h
          | some a =>
            rw [ha, Option.bind_some] at h
            cases hb : dueR n (M.drop (i + 1)) with
            | none => rw [hb] at h; cases h
            | some b =>
              rw [hb] at h
              cases h
              obtain ⟨oa, ta⟩ := due_is n _ a ha
              obtain ⟨ob, tb⟩ := due_is n _ b hb
              have eM := take_drop e2
              rw [ta, tb] at eM
              have ecs := mid_is hm
              rw [eM] at ecs
              rcases e3 with rfl | rfl
              · refine ⟨⟨oa, ob⟩, ?_⟩
                show cs = textC (.either a b)
                rw [ecs, textC_either]; simp
              · refine ⟨⟨oa, ob⟩, ?_⟩
                show cs = textC (.both a b)
                rw [ecs, textC_both]; simp
/-! ### the program's reader reads the same -/
def flatI : Itm → List Nat
  | .kd k => textC k
  | .sg c => [c]
def flatR (R : List Itm) : List Nat := R.reverse.flatMap flatI
theorem flat_cons (x : Itm) (R : List Itm) : flatR (x :: R) = flatR R ++ flatI x := by simp [flatR]
def okI : Itm → Prop
  | .kd k => k.Ok
  | .sg _ => True
theorem step_flat {R R' : List Itm} {c : Nat} (h : stepR R c = some R') (hR : ∀ x ∈ R, okI x) : flatR R' = flatR R ++ [c] ∧ ∀ x ∈ R', okI x := by
  unfold stepR at h
  cases hk : leafK c with
  | some k =>
    rw [hk] at h
    cases h
    obtain ⟨h1, h2⟩ := leaf_text hk
    refine ⟨by rw [flat_cons]; simp only [flatI]; rw [h2], fun x hx => ?_⟩
    rcases List.mem_cons.mp hx with rfl | hx
    · exact h1
    · exact hR x hx
  | none =>
    rw [hk] at h
    simp only at h
    split at h
    · rename_i hc
      subst hc
      unfold closeR at h
      split at h
      · rename_i b s a p r
        have oa : a.Ok := hR (.kd a) (by simp)
        have ob : b.Ok := hR (.kd b) (by simp)
        have hr : ∀ x ∈ r, okI x := fun x hx => hR x (by simp [hx])
        split at h
        · rename_i hp
          subst hp
          split at h
          · rename_i hs
            subst hs
            cases h
            refine ⟨?_, fun x hx => ?_⟩
            · simp only [flat_cons, flatI, textC_either]; simp
            · rcases List.mem_cons.mp hx with rfl | hx
              · exact ⟨oa, ob⟩
              · exact hr x hx
          · split at h
            · rename_i hs
              subst hs
              cases h
              refine ⟨?_, fun x hx => ?_⟩
              · simp only [flat_cons, flatI, textC_both]; simp
              · rcases List.mem_cons.mp hx with rfl | hx
                · exact ⟨oa, ob⟩
                · exact hr x hx
            · cases h
        · cases h
      · cases h
    · cases h
      refine ⟨by rw [flat_cons]; rfl, fun x hx => ?_⟩
      rcases List.mem_cons.mp hx with rfl | hx
      · trivial
      · exact hR x hx
theorem run_flat : ∀ (cs : List Nat) (R R' : List Itm), runR cs R = some R' → (∀ x ∈ R, okI x) → flatR R' = flatR R ++ cs ∧ ∀ x ∈ R', okI x
  | [], R, R', h, hR => by cases h; exact ⟨by simp, hR⟩
  | c :: cs, R, R', h, hR => by
    simp only [runR] at h
    cases hs : stepR R c with
    | none => rw [hs] at h; cases h
    | some R1 =>
      rw [hs, Option.bind_some] at h
      obtain ⟨h1, h2⟩ := step_flat hs hR
      obtain ⟨h3, h4⟩ := run_flat cs R1 R' h h2
      exact ⟨by rw [h3, h1]; simp, h4⟩
theorem read_is {cs : List Nat} {k : Kd} (h : readR cs = some k) : k.Ok ∧ cs = textC k := by
  unfold readR at h
  split at h
  · rename_i k' hr
    cases h
    obtain ⟨h1, h2⟩ := run_flat cs [] _ hr (by simp)
    refine ⟨h2 (.kd k) (by simp), ?_⟩
    simpa [flatR, flatI] using h1.symm
  · cases h
theorem due_read (n : Nat) (cs : List Nat) (hn : cs.length < n) : dueR n cs = readR cs := by
  cases hr : readR cs with
  | some k =>
    obtain ⟨h1, h2⟩ := read_is hr
    subst h2
    exact due_text k n h1 hn
  | none =>
    cases hd : dueR n cs with
    | none => rfl
    | some k =>
      obtain ⟨h1, h2⟩ := due_is n cs k hd
      subst h2
      have := readR_text k h1
      unfold textC at hr
      rw [this] at hr
      cases hr
end KT
set_option Elab.async false
set_option linter.all false
set_option maxRecDepth 100000
namespace KT
open PySem
abbrev sZ (cs : List Nat) : Str := ⟨cs.toArray⟩
theorem sZ_cps (z : Str) : sZ (cps z) = z := by cases z; simp [cps, sZ]
theorem cps_sZ (cs : List Nat) : cps (sZ cs) = cs := by simp [cps, sZ]
theorem sZ_len (cs : List Nat) : (sZ cs).length = cs.length := by simp [Str.length, sZ]
def optK : Option Kd → PyData
  | none => .none
  | some k => enc k
theorem optK_lf (o : Option Kd) : lf (optK o) = true := by
  cases o with
  | none => rfl
  | some k => exact enc_lf k
theorem in_chs (c : Nat) (hc : c < 128) : ∀ (ks : List Nat), (∀ k ∈ ks, k < 128) → dIn (.str (ch c)) (.tuple (ks.map fun k => .str (ch k))) = some (.bool (ks.any fun k => k == c)) := fun ks hk => by
  have ha : PyData.canLayAll0 (ks.map fun k => .str (ch k)) = true ∧ PyData.depthAll (ks.map fun k => .str (ch k)) = 0 := by
    induction ks with
    | nil => exact ⟨rfl, rfl⟩
    | cons k ks ih =>
      obtain ⟨i1, i2⟩ := ih fun q hq => hk q (List.mem_cons_of_mem _ hq)
      have h1 := ch_ok k (hk k (List.mem_cons_self ..))
      simp only [List.map_cons, PyData.canLayAll0, PyData.canLay0, PyData.depthAll, PyData.depth, h1, i1, i2]
      exact ⟨rfl, rfl⟩
  have ho : inOk (.str (ch c)) (ks.map fun k => .str (ch k)) = true := by
    have := ch_ok c hc
    simp [inOk, PyData.canLay0, this, ha.1, ha.2]
  have he : (ks.map fun k => PyData.str (ch k)).any (fun y => PyData.eqv y (.str (ch c))) = ks.any fun k => k == c := by
    rw [List.any_map]
    congr 1
    funext k
    simp only [Function.comp, PyData.eqv, ch_eq]
  simp only [dIn, dInB, ho, if_true, he, Option.map_some]
theorem in01 (c : Nat) (hc : c < 128) : dIn (.str (ch c)) (.tuple [.str "0", .str "1"]) = some (.bool (48 == c || (49 == c || false))) := by
  rw [s_0, s_1]; exact in_chs c hc [48, 49] (by simp)
theorem inad (c : Nat) (hc : c < 128) : dIn (.str (ch c)) (.tuple [.str "a", .str "b", .str "c", .str "d"]) = some (.bool (97 == c || (98 == c || (99 == c || (100 == c || false))))) := by
  rw [s_a, s_b, s_c, s_d]; exact in_chs c hc [97, 98, 99, 100] (by simp)
theorem inop (c : Nat) (hc : c < 128) : dIn (.str (ch c)) (.tuple [.str "+", .str "*"]) = some (.bool (43 == c || (42 == c || false))) := by
  rw [s_pl, s_ti]; exact in_chs c hc [43, 42] (by simp)
theorem len1S (c : Nat) : dLen (.str (ch c)) = some (.int 1) := rfl
theorem neg1 : dNeg (.int 1) = some (.int (-1)) := rfl
theorem due_one (n c : Nat) (hc : c < 128) : m_law_due (n + 1) [.str (ch c)] = some (.ok (optK (leafK c))) := by
  show runB 5 (b_law_due (m_law_due n)) _ = _
  have i1 := in01 c hc
  have i2 := inad c hc
  by_cases h0 : c = 48
  · subst h0
    have l : List.lookup (ch 48) ([("0", .str "none"), ("1", .str "one")] : List (Str × PyData)) = some (.str "none") := by rw [s_0, s_1]; simp [List.lookup_cons]
    simp [runB, b_law_due, sSeq, sIf, eEq, e2, eLen, e1, eVar, eC, bindE, bindS, bindI, len1S, eqII, eIn, eTup, eArgs, i1, sRet, eDix, l, lf, lfs] <;> rfl
  by_cases h1 : c = 49
  · subst h1
    have l : List.lookup (ch 49) ([("0", .str "none"), ("1", .str "one")] : List (Str × PyData)) = some (.str "one") := by rw [s_0, s_1]; simp [List.lookup_cons, ch_eq]
    simp [runB, b_law_due, sSeq, sIf, eEq, e2, eLen, e1, eVar, eC, bindE, bindS, bindI, len1S, eqII, eIn, eTup, eArgs, i1, sRet, eDix, l, lf, lfs] <;> rfl
  have b0 : (48 == c) = false := by simpa using fun e => h0 e.symm
  have b1 : (49 == c) = false := by simpa using fun e => h1 e.symm
  rw [b0, b1] at i1
  have nm : ∀ i : Nat, i < 4 → c = 97 + i → runB 5 (b_law_due (m_law_due n)) [.str (ch c)] = some (.ok (.tuple [.str "name", .int i])) := fun i hi e => by
    have t : abT.lookup (ch c) = some (i : Int) := by
      subst e
      unfold abT
      rw [s_a, s_b, s_c, s_d]
      have : i = 0 ∨ i = 1 ∨ i = 2 ∨ i = 3 := by omega
      rcases this with rfl | rfl | rfl | rfl <;> simp [List.lookup_cons, ch_eq]
    have b : (97 == c || (98 == c || (99 == c || (100 == c || false)))) = true := by
      subst e
      have : i = 0 ∨ i = 1 ∨ i = 2 ∨ i = 3 := by omega
      rcases this with rfl | rfl | rfl | rfl <;> rfl
    rw [b] at i2
    simp [runB, b_law_due, sSeq, sIf, eEq, e2, eLen, e1, eVar, eC, bindE, bindS, bindI, len1S, eqII, eIn, eTup, eArgs, i1, i2, sNext, sRet, eAbcd, t, lf, lfs]
  by_cases h2 : c = 97
  · rw [nm 0 (by decide) h2]; subst h2; rfl
  by_cases h3 : c = 98
  · rw [nm 1 (by decide) h3]; subst h3; rfl
  by_cases h4 : c = 99
  · rw [nm 2 (by decide) h4]; subst h4; rfl
  by_cases h5 : c = 100
  · rw [nm 3 (by decide) h5]; subst h5; rfl
  have b2 : (97 == c) = false := by simpa using fun e => h2 e.symm
  have b3 : (98 == c) = false := by simpa using fun e => h3 e.symm
  have b4 : (99 == c) = false := by simpa using fun e => h4 e.symm
  have b5 : (100 == c) = false := by simpa using fun e => h5 e.symm
  rw [b2, b3, b4, b5] at i2
  have e : leafK c = none := by unfold leafK; split <;> first | rfl | omega
  rw [e]
  simp [runB, b_law_due, sSeq, sIf, eEq, e2, eLen, e1, eVar, eC, bindE, bindS, bindI, len1S, eqII, eIn, eTup, eArgs, i1, i2, sNext, sRet, lf] <;> rfl
/-! ### the walk -/
def dueBody (g : FC) : FS := (sSeq (sIf (eEq (eIx (eVar 0) (eVar 2)) (eC (.str "("))) (sSet 1 (eAdd (eVar 1) (eC (.int 1)))) sNext) (sSeq (sIf (eEq (eIx (eVar 0) (eVar 2)) (eC (.str ")"))) (sSet 1 (eSub (eVar 1) (eC (.int 1)))) sNext) (sIf (eAnd (eEq (eVar 1) (eC (.int 0))) (eIn (eIx (eVar 0) (eVar 2)) (eTup [(eC (.str "+")), (eC (.str "*"))]))) (sSeq (sSet 3 (eCall g [(eSlS (eVar 0) (oSome (eC (.int 1))) (oSome (eVar 2)))])) (sSeq (sSet 4 (eCall g [(eSlS (eVar 0) (oSome (eAdd (eVar 2) (eC (.int 1)))) (oSome (eNeg (eC (.int 1)))))])) (sSeq (sIf (eOr (eIsN (eVar 3) (eC .none)) (eIsN (eVar 4) (eC .none))) (sRet (eC .none)) sNext) (sRet (eTup [(eDix [("+", .str "either"), ("*", .str "both")] (eIx (eVar 0) (eVar 2))), (eVar 3), (eVar 4)]))))) sNext)))
theorem isN_opt (o : Option Kd) : dIsN (optK o) .none = some (.bool o.isNone) := by
  cases o with
  | none => rfl
  | some k => cases k <;> rfl
theorem cut_left (M : List Nat) (j : Nat) (h : j < M.length) : cutP (40 :: (M ++ [41])) (some 1) (some ((1 + j : Nat) : Int)) = M.take j := by
  have e1 : sxP (40 :: (M ++ [41])).length 0 (some 1) = 1 := by
    simp only [sxP, List.length_cons, List.length_append, List.length_nil]
    rw [if_neg (by decide)]
    simp
  have e2 : sxP (40 :: (M ++ [41])).length (40 :: (M ++ [41])).length (some ((1 + j : Nat) : Int)) = 1 + j := by
    simp only [sxP, List.length_cons, List.length_append, List.length_nil]
    rw [if_neg (by omega)]
    omega
  unfold cutP
  rw [e1, e2]
  show (M ++ [41]).take (1 + j - 1) = _
  rw [show 1 + j - 1 = j by omega, List.take_append_of_le_length (by omega)]
theorem cut_right (M : List Nat) (j : Nat) (h : j < M.length) : cutP (40 :: (M ++ [41])) (some ((1 + j : Nat) + 1 : Int)) (some (-1)) = M.drop (j + 1) := by
  have e1 : sxP (40 :: (M ++ [41])).length 0 (some ((1 + j : Nat) + 1 : Int)) = j + 2 := by
    simp only [sxP, List.length_cons, List.length_append, List.length_nil]
    rw [if_neg (by omega)]
    omega
  have e2 : sxP (40 :: (M ++ [41])).length (40 :: (M ++ [41])).length (some (-1)) = M.length + 1 := by
    simp only [sxP, List.length_cons, List.length_append, List.length_nil]
    rw [if_pos (by decide)]
    omega
  unfold cutP
  rw [e1, e2]
  show ((M ++ [41]).drop (j + 1)).take (M.length + 1 - (j + 2)) = _
  rw [List.drop_append_of_le_length (by omega), List.take_append_of_le_length (by rw [List.length_drop]; omega)]
  exact List.take_of_length_le (by rw [List.length_drop]; omega)
theorem at_mid (P S : List Nat) (c : Nat) (hb : (40 :: (P ++ c :: S ++ [41])).length ≤ big) : dIx (.str (sZ (40 :: (P ++ c :: S ++ [41])))) (.int ((1 + P.length : Nat) : Int)) = some (.str (ch c)) := by
  have hl : (sZ (40 :: (P ++ c :: S ++ [41]))).length ≤ big := by rw [sZ_len]; exact hb
  have hx : (sZ (40 :: (P ++ c :: S ++ [41]))).cps.toList = 40 :: (P ++ c :: S ++ [41]) := by simp [sZ]
  have ha : atP (40 :: (P ++ c :: S ++ [41])) ((1 + P.length : Nat) : Int) = some c := by
    unfold atP ixP
    rw [if_pos (by omega), if_pos (by simp; omega)]
    simp only [Option.bind_some, Int.toNat_natCast]
    rw [Nat.add_comm, List.getElem?_cons_succ]
    simp
  simp only [dIx]
  rw [if_pos hl, ha]
  rfl
theorem due_step (n : Nat) (M P S : List Nat) (c : Nat) (d : Int) (eM : M = P ++ c :: S) (hc : c < 128) (hb : M.length + 2 ≤ 5000) (IH : ∀ L : List Nat, L.length < M.length → (∀ q ∈ L, q ∈ M) → m_law_due n [.str (sZ L)] = some (.ok (optK (dueR n L)))) (x3 x4 : Option Slot) :
    dueBody (m_law_due n) [some (.par (.str (sZ (40 :: (M ++ [41]))))), some (.loc (.int d)), some (.loc (.int ((1 + P.length : Nat) : Int))), x3, x4] =
      if (if c = 40 then d + 1 else if c = 41 then d - 1 else d) = 0 ∧ (c = 43 ∨ c = 42) then
        some (.ret (optK ((dueR n (M.take P.length)).bind fun a => (dueR n (M.drop (P.length + 1))).map fun b => nodeK c a b)))
      else some (.next [some (.par (.str (sZ (40 :: (M ++ [41]))))), some (.loc (.int (if c = 40 then d + 1 else if c = 41 then d - 1 else d))), some (.loc (.int ((1 + P.length : Nat) : Int))), x3, x4]) := by
  have hbig : 5000 ≤ big := by decide
  have hix : dIx (.str (sZ (40 :: (M ++ [41])))) (.int ((1 + P.length : Nat) : Int)) = some (.str (ch c)) := by
    subst eM
    exact at_mid P S c (by simp at hb ⊢; omega)
  have q1 : dEq (.str (ch c)) (.str "(") = some (.bool (c == 40)) := by rw [s_op, eqSS, ch_eq]
  have q2 : dEq (.str (ch c)) (.str ")") = some (.bool (c == 41)) := by rw [s_cl, eqSS, ch_eq]
  have q3 := inop c hc
  have hj : P.length < M.length := by subst eM; simp
  have lz : (sZ (40 :: (M ++ [41]))).length ≤ big := by rw [sZ_len]; simp; omega
  have hcp : (sZ (40 :: (M ++ [41]))).cps.toList = 40 :: (M ++ [41]) := by simp [sZ]
  have c1 : dSlS (some 1) (some ((1 + P.length : Nat) : Int)) (.str (sZ (40 :: (M ++ [41])))) = some (.str (sZ (M.take P.length))) := by
    simp only [dSlS]
    rw [if_pos lz, cut_left M P.length hj]
  have c2 : dSlS (some ((1 + P.length : Nat) + 1 : Int)) (some (-1)) (.str (sZ (40 :: (M ++ [41])))) = some (.str (sZ (M.drop (P.length + 1)))) := by
    simp only [dSlS]
    rw [if_pos lz, cut_right M P.length hj]
  have i1 := IH (M.take P.length) (by rw [List.length_take]; omega) (fun q hq => List.mem_of_mem_take hq)
  have i2 := IH (M.drop (P.length + 1)) (by rw [List.length_drop]; omega) (fun q hq => List.mem_of_mem_drop hq)
  generalize hL : dueR n (M.take P.length) = oa at i1
  generalize hR : dueR n (M.drop (P.length + 1)) = ob at i2
  generalize sZ (M.take P.length) = zl at c1 i1
  generalize sZ (M.drop (P.length + 1)) = zr at c2 i2
  generalize sZ (40 :: (M ++ [41])) = Z at hix c1 c2
  generalize ((1 + P.length : Nat) : Int) = at' at hix c1 c2
  have lfa := optK_lf oa
  have lfb := optK_lf ob
  have na := isN_opt oa
  have nb := isN_opt ob
  by_cases h40 : c = 40
  · subst h40
    have b : (43 == 40 || (42 == 40 || false)) = false := rfl
    rw [b] at q3
    rw [if_neg (by omega)]
    by_cases hd : d + 1 = 0
    · simp [dueBody, sSeq, sIf, eEq, e2, eIx, eVar, eC, bindE, bindS, hix, q1, q2, sSet, eAdd, addII, asg_int, eqII, eAnd, hd, eIn, eTup, eArgs, bindI, q3, sNext]
    · have hdB : (d + 1 == 0) = false := by simpa using hd
      simp [dueBody, sSeq, sIf, eEq, e2, eIx, eVar, eC, bindE, bindS, hix, q1, q2, sSet, eAdd, addII, asg_int, eqII, eAnd, hd, hdB, eIn, eTup, eArgs, bindI, q3, sNext]
  · have b40 : (c == 40) = false := by simpa using h40
    rw [b40] at q1
    by_cases h41 : c = 41
    · subst h41
      have b : (43 == 41 || (42 == 41 || false)) = false := rfl
      rw [b] at q3
      rw [if_neg (by omega)]
      by_cases hd : d - 1 = 0
      · simp [dueBody, sSeq, sIf, eEq, e2, eIx, eVar, eC, bindE, bindS, hix, q1, q2, sSet, eSub, subII, asg_int, eqII, eAnd, hd, eIn, eTup, eArgs, bindI, q3, sNext]
      · have hdB : (d - 1 == 0) = false := by simpa using hd
        simp [dueBody, sSeq, sIf, eEq, e2, eIx, eVar, eC, bindE, bindS, hix, q1, q2, sSet, eSub, subII, asg_int, eqII, eAnd, hd, hdB, eIn, eTup, eArgs, bindI, q3, sNext]
    · have b41 : (c == 41) = false := by simpa using h41
      rw [b41] at q2
      simp only [h40, h41, if_false]
      by_cases hd : d = 0
      · by_cases hop : c = 43 ∨ c = 42
        · rw [if_pos ⟨hd, hop⟩]
          subst hd
          have bo : (43 == c || (42 == c || false)) = true := by rcases hop with rfl | rfl <;> rfl
          rw [bo] at q3
          have hw : ∃ wd : Str, List.lookup (ch c) ([("+", .str "either"), ("*", .str "both")] : List (Str × PyData)) = some (.str wd) ∧ ∀ a b, enc (nodeK c a b) = .tuple [.str wd, enc a, enc b] := by
            rcases hop with rfl | rfl
            · exact ⟨"either", by rw [s_pl, s_ti]; simp [List.lookup_cons], fun a b => rfl⟩
            · exact ⟨"both", by rw [s_pl, s_ti]; simp [List.lookup_cons, ch_eq], fun a b => rfl⟩
          obtain ⟨wd, hw1, hw2⟩ := hw
          have pre : ∀ T : FS, sSeq (sIf (eEq (eIx (eVar 0) (eVar 2)) (eC (.str "("))) (sSet 1 (eAdd (eVar 1) (eC (.int 1)))) sNext) (sSeq (sIf (eEq (eIx (eVar 0) (eVar 2)) (eC (.str ")"))) (sSet 1 (eSub (eVar 1) (eC (.int 1)))) sNext) (sIf (eAnd (eEq (eVar 1) (eC (.int 0))) (eIn (eIx (eVar 0) (eVar 2)) (eTup [(eC (.str "+")), (eC (.str "*"))]))) T sNext)) [some (.par (.str Z)), some (.loc (.int 0)), some (.loc (.int at')), x3, x4] = T [some (.par (.str Z)), some (.loc (.int 0)), some (.loc (.int at')), x3, x4] := fun T => by
            simp [sSeq, sIf, eEq, e2, eIx, eVar, eC, bindE, bindS, hix, q1, q2, sNext, eqII, eAnd, eIn, eTup, eArgs, bindI, q3]
          unfold dueBody
          rw [pre]
          have s34 : ∀ T : FS, sSeq (sSet 3 (eCall (m_law_due n) [(eSlS (eVar 0) (oSome (eC (.int 1))) (oSome (eVar 2)))])) (sSeq (sSet 4 (eCall (m_law_due n) [(eSlS (eVar 0) (oSome (eAdd (eVar 2) (eC (.int 1)))) (oSome (eNeg (eC (.int 1)))))])) T) [some (.par (.str Z)), some (.loc (.int 0)), some (.loc (.int at')), x3, x4] = T [some (.par (.str Z)), some (.loc (.int 0)), some (.loc (.int at')), some (.loc (optK oa)), some (.loc (optK ob))] := fun T => by
            simp [sSeq, sSet, eCall, eArgs, eSlS, oSome, eVar, eC, eAdd, e2, addII, eNeg, e1, neg1, bindE, bindI, bindS, c1, c2, i1, i2, ofRC, asg_lf lfa, asg_lf lfb]
          rw [s34]
          cases oa with
          | none =>
            simp only [optK] at na ⊢
            have na' : dIsN .none .none = some (.bool true) := rfl
            simp [sSeq, sIf, eOr, eIsN, e2, eVar, eC, bindE, bindS, na', sRet, lf]
          | some a =>
            have na' : dIsN (enc a) .none = some (.bool false) := na
            cases ob with
            | none =>
              have nb' : dIsN .none .none = some (.bool true) := rfl
              simp [sSeq, sIf, eOr, eIsN, e2, eVar, eC, bindE, bindS, optK, na', nb', sRet, lf]
            | some b =>
              have nb' : dIsN (enc b) .none = some (.bool false) := nb
              have la : lf (enc a) = true := enc_lf a
              have lb : lf (enc b) = true := enc_lf b
              simp [sSeq, sIf, eOr, eIsN, e2, eVar, eC, bindE, bindI, bindS, optK, na', nb', sNext, sRet, eTup, eArgs, eDix, eIx, hix, hw1, hw2, lf, lfs, la, lb]
        · rw [if_neg (fun h => hop h.2)]
          have bo : (43 == c || (42 == c || false)) = false := by
            have h1 : ¬ 43 = c := fun e => hop (.inl e.symm)
            have h2 : ¬ 42 = c := fun e => hop (.inr e.symm)
            simp [h1, h2]
          rw [bo] at q3
          subst hd
          simp [dueBody, sSeq, sIf, eEq, e2, eIx, eVar, eC, bindE, bindS, hix, q1, q2, sNext, eqII, eAnd, eIn, eTup, eArgs, bindI, q3]
      · rw [if_neg (fun h => hd h.1)]
        have hdB : (d == 0) = false := by simpa using hd
        simp [dueBody, sSeq, sIf, eEq, e2, eIx, eVar, eC, bindE, bindS, hix, q1, q2, sNext, eqII, eAnd, hd, hdB]
theorem due_walk (n : Nat) (M : List Nat) (hM : ∀ c ∈ M, c < 128) (hb : M.length + 2 ≤ 5000) (IH : ∀ L : List Nat, L.length < M.length → (∀ q ∈ L, q ∈ M) → m_law_due n [.str (sZ L)] = some (.ok (optK (dueR n L)))) : ∀ (S P : List Nat) (d : Int) (x2 x3 x4 : Option Slot), M = P ++ S →
    (match scanL S P.length d with
      | some h => forGo (tgName 2) (dueBody (m_law_due n)) ((List.range S.length).map fun (k : Nat) => .int (1 + ((P.length + k : Nat) : Int))) [some (.par (.str (sZ (40 :: (M ++ [41]))))), some (.loc (.int d)), x2, x3, x4] =
          some (.ret (optK ((dueR n (M.take h.1)).bind fun a => (dueR n (M.drop (h.1 + 1))).map fun b => nodeK h.2 a b)))
      | none => ∃ y1 y2 y3 y4, forGo (tgName 2) (dueBody (m_law_due n)) ((List.range S.length).map fun (k : Nat) => .int (1 + ((P.length + k : Nat) : Int))) [some (.par (.str (sZ (40 :: (M ++ [41]))))), some (.loc (.int d)), x2, x3, x4] =
          some (.next [some (.par (.str (sZ (40 :: (M ++ [41]))))), y1, y2, y3, y4]))
  | [], P, d, x2, x3, x4, _ => ⟨_, _, _, _, rfl⟩
  | c :: S, P, d, x2, x3, x4, eM => by
    have hc : c < 128 := hM c (by rw [eM]; simp)
    have st := due_step n M P S c d eM hc hb IH x3 x4
    have ih := due_walk n M hM hb IH S (P ++ [c]) (if c = 40 then d + 1 else if c = 41 then d - 1 else d) (some (.loc (.int ((1 + P.length : Nat) : Int)))) x3 x4 (by rw [eM]; simp)
    have hr : (List.range (c :: S).length).map (fun (k : Nat) => PyData.int (1 + ((P.length + k : Nat) : Int))) = .int ((1 + P.length : Nat) : Int) :: (List.range S.length).map fun (k : Nat) => .int (1 + (((P ++ [c]).length + k : Nat) : Int)) := by
      rw [List.length_cons, List.range_succ_eq_map, List.map_cons, List.map_map]
      refine List.cons_eq_cons.mpr ⟨?_, ?_⟩
      · have : 1 + ((P.length + 0 : Nat) : Int) = ((1 + P.length : Nat) : Int) := by omega
        rw [this]
      · apply List.map_congr_left
        intro k _
        have : 1 + ((P.length + Nat.succ k : Nat) : Int) = 1 + (((P ++ [c]).length + k : Nat) : Int) := by
          simp only [List.length_append, List.length_cons, List.length_nil]
          omega
        simp only [Function.comp]
        rw [this]
    rw [hr]
    generalize (List.range S.length).map (fun (k : Nat) => PyData.int (1 + (((P ++ [c]).length + k : Nat) : Int))) = TL at ih
    have t0 : tgName 2 (.int ((1 + P.length : Nat) : Int)) [some (.par (.str (sZ (40 :: (M ++ [41]))))), some (.loc (.int d)), x2, x3, x4] = some [some (.par (.str (sZ (40 :: (M ++ [41]))))), some (.loc (.int d)), some (.loc (.int ((1 + P.length : Nat) : Int))), x3, x4] := rfl
    unfold scanL
    by_cases hh : (if c = 40 then d + 1 else if c = 41 then d - 1 else d) = 0 ∧ (c = 43 ∨ c = 42)
    · rw [if_pos hh] at st ⊢
      dsimp only
      unfold forGo
      rw [t0]
      dsimp only
      rw [st]
    · rw [if_neg hh] at st ⊢
      have e : forGo (tgName 2) (dueBody (m_law_due n)) (.int ((1 + P.length : Nat) : Int) :: TL) [some (.par (.str (sZ (40 :: (M ++ [41]))))), some (.loc (.int d)), x2, x3, x4] = forGo (tgName 2) (dueBody (m_law_due n)) TL [some (.par (.str (sZ (40 :: (M ++ [41]))))), some (.loc (.int (if c = 40 then d + 1 else if c = 41 then d - 1 else d))), some (.loc (.int ((1 + P.length : Nat) : Int))), x3, x4] := by
        conv => lhs; unfold forGo
        rw [t0]
        dsimp only
        rw [st]
      rw [e]
      have el : (P ++ [c]).length = P.length + 1 := by simp
      rw [el] at ih
      exact ih
theorem cut_head (c : Nat) (r : List Nat) : cutP (c :: r) none (some 1) = [c] := by
  unfold cutP
  have e : sxP (c :: r).length (c :: r).length (some 1) = 1 := by
    simp only [sxP, List.length_cons]
    rw [if_neg (by decide)]
    simp
  rw [e]
  simp [sxP]
theorem cut_last (r : List Nat) (x : Nat) : cutP (r ++ [x]) (some (-1)) none = [x] := by
  unfold cutP
  have e : sxP (r ++ [x]).length 0 (some (-1)) = r.length := by
    simp only [sxP, List.length_append, List.length_cons, List.length_nil]
    rw [if_pos (by decide)]
    omega
  rw [e]
  simp [sxP]
theorem law_due_ok : ∀ (n : Nat) (cs : List Nat), cs.length < n → cs.length ≤ 5000 → (∀ c ∈ cs, c < 128) → m_law_due n [.str (sZ cs)] = some (.ok (optK (dueR n cs)))
  | 0, cs, h, _, _ => by omega
  | n + 1, cs, hn, hb, ha => by
    have hbig : 5000 ≤ big := by decide
    by_cases h1 : cs.length = 1
    · obtain ⟨c, rfl⟩ := List.length_eq_one_iff.mp h1
      exact due_one n c (ha c (by simp))
    · have lz : (sZ cs).length ≤ big := by rw [sZ_len]; omega
      have hl : dLen (.str (sZ cs)) = some (.int (cs.length : Int)) := by
        simp only [dLen]
        rw [if_pos lz, sZ_len]
      have hne : dEq (.int (cs.length : Int)) (.int 1) = some (.bool false) := by
        rw [eqII]
        have : ((cs.length : Int) == 1) = false := by simpa using (by omega : ¬ (cs.length : Int) = 1)
        rw [this]
      show runB 5 (b_law_due (m_law_due n)) [.str (sZ cs)] = _
      have eb : b_law_due (m_law_due n) = sSeq (sIf (eEq (eLen (eVar 0)) (eC (.int 1))) (sSeq (sIf (eIn (eVar 0) (eTup [(eC (.str "0")), (eC (.str "1"))])) (sRet (eTup [(eDix [("0", .str "none"), ("1", .str "one")] (eVar 0))])) sNext) (sSeq (sIf (eIn (eVar 0) (eTup [(eC (.str "a")), (eC (.str "b")), (eC (.str "c")), (eC (.str "d"))])) (sRet (eTup [(eC (.str "name")), (eAbcd (eVar 0))])) sNext) (sRet (eC .none)))) sNext) (sSeq (sIf (eOr (eNe (eSlS (eVar 0) oNone (oSome (eC (.int 1)))) (eC (.str "("))) (eNe (eSlS (eVar 0) (oSome (eNeg (eC (.int 1)))) oNone) (eC (.str ")")))) (sRet (eC .none)) sNext) (sSeq (sSet 1 (eC (.int 0))) (sSeq (sFor (iR2 (eC (.int 1)) (eSub (eLen (eVar 0)) (eC (.int 1)))) (tgName 2) (dueBody (m_law_due n))) (sRet (eC .none))))) := rfl
      rw [eb]
      have first : ∀ (A T : FS) (z : Str), dLen (.str z) = some (.int (cs.length : Int)) → sSeq (sIf (eEq (eLen (eVar 0)) (eC (.int 1))) A sNext) T [some (.par (.str z)), none, none, none, none] = T [some (.par (.str z)), none, none, none, none] := fun A T z hz => by
        generalize (cs.length : Int) = N at hz hne
        simp [sSeq, sIf, eEq, e2, eLen, e1, eVar, eC, bindE, bindS, hz, hne, sNext]
      have run : ∀ (B : FS) (z : Str), runB 5 B [.str z] = (match B [some (.par (.str z)), none, none, none, none] with
          | some (.ret d) => some (.ok d)
          | some (.next _) => some (.ok .none)
          | some (.exc c _) => some (.exc c)
          | _ => none) := fun B z => rfl
      rw [run, first _ _ _ hl]
      unfold dueR
      rw [if_neg h1]
      have c1 : dSlS none (some 1) (.str (sZ cs)) = some (.str (sZ (cutP cs none (some 1)))) := by
        simp only [dSlS]
        rw [if_pos lz]
      have c2 : dSlS (some (-1)) none (.str (sZ cs)) = some (.str (sZ (cutP cs (some (-1)) none))) := by
        simp only [dSlS]
        rw [if_pos lz]
      have refuse : ∀ (T : FS) (z a b : Str) (ba bb : Bool), dSlS none (some 1) (.str z) = some (.str a) → dSlS (some (-1)) none (.str z) = some (.str b) → dNe (.str a) (.str "(") = some (.bool ba) → dNe (.str b) (.str ")") = some (.bool bb) →
          sSeq (sIf (eOr (eNe (eSlS (eVar 0) oNone (oSome (eC (.int 1)))) (eC (.str "("))) (eNe (eSlS (eVar 0) (oSome (eNeg (eC (.int 1)))) oNone) (eC (.str ")")))) (sRet (eC .none)) sNext) T [some (.par (.str z)), none, none, none, none] = if (ba || bb) = true then some (.ret .none) else T [some (.par (.str z)), none, none, none, none] := fun T z a b ba bb k1 k2 k3 k4 => by
        cases ba <;> cases bb <;> simp [sSeq, sIf, eOr, eNe, e2, eSlS, oNone, oSome, eVar, eC, eNeg, e1, neg1, bindE, bindS, k1, k2, k3, k4, sRet, lf, sNext]
      match cs, h1, hn, hb, ha, hl, lz, c1, c2 with
      | [], _, _, _, _, _, _, c1, c2 =>
        have k3 : dNe (.str (sZ (cutP [] none (some 1)))) (.str "(") = some (.bool true) := by kernel_rfl
        have k4 : dNe (.str (sZ (cutP [] (some (-1)) none))) (.str ")") = some (.bool true) := by kernel_rfl
        rw [refuse _ _ _ _ _ _ c1 c2 k3 k4]
        rfl
      | c :: r, h1, hn, hb, ha, hl, lz, c1, c2 =>
        have hr : r ≠ [] := by intro z; subst z; exact h1 rfl
        obtain ⟨M, x, rfl⟩ : ∃ M x, r = M ++ [x] := ⟨r.dropLast, r.getLast hr, (List.dropLast_concat_getLast hr).symm⟩
        have k3 : dNe (.str (sZ (cutP (c :: (M ++ [x])) none (some 1)))) (.str "(") = some (.bool (!(c == 40))) := by
          rw [cut_head, s_op, neSS]
          exact congrArg (fun b => some (PyData.bool (!b))) (ch_eq c 40)
        have k4 : dNe (.str (sZ (cutP (c :: (M ++ [x])) (some (-1)) none))) (.str ")") = some (.bool (!(x == 41))) := by
          have := cut_last (c :: M) x
          rw [List.cons_append] at this
          rw [this, s_cl, neSS]
          exact congrArg (fun b => some (PyData.bool (!b))) (ch_eq x 41)
        rw [refuse _ _ _ _ _ _ c1 c2 k3 k4]
        by_cases hc : c = 40
        · by_cases hx : x = 41
          · subst hc hx
            rw [mid_of, Option.bind_some]
            simp only [List.length_cons, List.length_append, List.length_nil] at hn hb
            have IH : ∀ L : List Nat, L.length < M.length → (∀ q ∈ L, q ∈ M) → m_law_due n [.str (sZ L)] = some (.ok (optK (dueR n L))) := fun L hL hq => law_due_ok n L (by omega) (by omega) fun q hqq => ha q (by simp [hq q hqq])
            have w := due_walk n M (fun q hq => ha q (by simp [hq])) (by omega) IH M [] 0 none none none rfl
            have eL : (List.range M.length).map (fun (k : Nat) => PyData.int (1 + ((([] : List Nat).length + k : Nat) : Int))) = (List.range ((((40 :: (M ++ [41])).length : Nat) : Int) - 1 - 1).toNat).map fun (k : Nat) => .int (1 + (k : Int)) := by
              have : ((((40 :: (M ++ [41])).length : Nat) : Int) - 1 - 1).toNat = M.length := by simp only [List.length_cons, List.length_append, List.length_nil]; omega
              rw [this]
              simp
            rw [eL] at w
            have hbb : ((1 : Int)).natAbs ≤ big ∧ ((((40 :: (M ++ [41])).length : Nat) : Int) - 1).natAbs ≤ big := by
              refine ⟨by decide, ?_⟩
              simp
              omega
            generalize sZ (40 :: (M ++ [41])) = Z at hl w
            generalize (((40 :: (M ++ [41])).length : Nat) : Int) = N at hl w hbb
            generalize hRL : (List.range (N - 1 - 1).toNat).map (fun (k : Nat) => PyData.int (1 + (k : Int))) = RL at w
            have fin : ∀ r : Option RS, forGo (tgName 2) (dueBody (m_law_due n)) RL [some (.par (.str Z)), some (.loc (.int 0)), none, none, none] = r → sSeq (sSet 1 (eC (.int 0))) (sSeq (sFor (iR2 (eC (.int 1)) (eSub (eLen (eVar 0)) (eC (.int 1)))) (tgName 2) (dueBody (m_law_due n))) (sRet (eC .none))) [some (.par (.str Z)), none, none, none, none] = (match r with
                | some (.next ρ') => sRet (eC .none) ρ'
                | r => r) := fun r hr => by
              have hi : iR2 (eC (.int 1)) (eSub (eLen (eVar 0)) (eC (.int 1))) [some (.par (.str Z)), some (.loc (.int 0)), none, none, none] = some (.ok 2 RL) := by
                have e1' : eC (.int 1) [some (.par (.str Z)), some (.loc (.int 0)), none, none, none] = some (.ok 2 (.int 1)) := rfl
                have e2' : eSub (eLen (eVar 0)) (eC (.int 1)) [some (.par (.str Z)), some (.loc (.int 0)), none, none, none] = some (.ok 2 (.int (N - 1))) := by
                  simp [eC, eSub, e2, eLen, e1, eVar, bindE, hl, subII]
                unfold iR2
                rw [e1', e2']
                dsimp only
                rw [if_pos hbb, hRL]
              subst hr
              generalize dueBody (m_law_due n) = DB
              generalize iR2 (eC (.int 1)) (eSub (eLen (eVar 0)) (eC (.int 1))) = IT at hi
              simp [sSeq, sSet, eC, bindS, asg_int, sFor, hi] <;> rfl
            have hf : (!(40 == 40) || !(41 == 41)) = false := rfl
            rw [if_neg (by decide)]
            cases hs : scanL M 0 0 with
            | some h =>
              have w' : forGo (tgName 2) (dueBody (m_law_due n)) RL [some (.par (.str Z)), some (.loc (.int 0)), none, none, none] = some (.ret (optK ((dueR n (M.take h.1)).bind fun a => (dueR n (M.drop (h.1 + 1))).map fun b => nodeK h.2 a b))) := by
                have e0 : scanL M ([] : List Nat).length 0 = some h := hs
                rw [e0] at w
                exact w
              rw [fin _ w']
              rfl
            | none =>
              have w' : ∃ y1 y2 y3 y4, forGo (tgName 2) (dueBody (m_law_due n)) RL [some (.par (.str Z)), some (.loc (.int 0)), none, none, none] = some (.next [some (.par (.str Z)), y1, y2, y3, y4]) := by
                have e0 : scanL M ([] : List Nat).length 0 = none := hs
                rw [e0] at w
                exact w
              obtain ⟨y1, y2, y3, y4, w'⟩ := w'
              rw [fin _ w']
              rfl
          · have hx' : (x == 41) = false := by simpa using hx
            have hm : midL (c :: (M ++ [x])) = none := by
              subst hc
              unfold midL
              simp [hx]
            rw [hx', hm]
            simp [optK]
        · have hc' : (c == 40) = false := by simpa using hc
          have hm : midL (c :: (M ++ [x])) = none := by
            unfold midL
            split
            · rename_i e; injection e with e1 _; exact absurd e1 hc
            · rfl
          rw [hc', hm]
          simp [optK]
end KT
set_option Elab.async false
set_option linter.all false
set_option maxRecDepth 100000
namespace KT
open PySem
mutual
def plain : PyData → Bool
  | .int _ => true
  | .str s => PyData.strOk s
  | .tuple ds => plains ds
  | _ => false
def plains : List PyData → Bool
  | [] => true
  | d :: ds => plain d && plains ds
end
mutual
def wsz : PyData → Nat
  | .tuple ds => 1 + wszs ds
  | _ => 1
def wszs : List PyData → Nat
  | [] => 0
  | d :: ds => wsz d + wszs ds
end
theorem plains_app : ∀ xs ys : List PyData, plains (xs ++ ys) = (plains xs && plains ys)
  | [], _ => by simp [plains]
  | x :: xs, ys => by simp [plains, plains_app xs ys, Bool.and_assoc]
theorem wszs_app : ∀ xs ys : List PyData, wszs (xs ++ ys) = wszs xs + wszs ys
  | [], _ => by simp [wszs]
  | x :: xs, ys => by simp [wszs, wszs_app xs ys, Nat.add_assoc]
theorem wsz_pos : ∀ d : PyData, 1 ≤ wsz d
  | .tuple _ => by simp [wsz]
  | .none => by simp [wsz]
  | .bool _ => by simp [wsz]
  | .int _ => by simp [wsz]
  | .str _ => by simp [wsz]
  | .list _ => by simp [wsz]
  | .dict _ => by simp [wsz]
theorem wszs_len : ∀ xs : List PyData, xs.length ≤ wszs xs
  | [] => by simp [wszs]
  | x :: xs => by have := wsz_pos x; have := wszs_len xs; simp [wszs]; omega
mutual
theorem plain_lay : ∀ d : PyData, plain d = true → d.canLay0 = true
  | .int _, _ => rfl
  | .str s, h => by simpa [PyData.canLay0, plain] using h
  | .tuple ds, h => by simpa [PyData.canLay0] using plains_lay ds (by simpa [plain] using h)
  | .none, h => by simp [plain] at h
  | .bool _, h => by simp [plain] at h
  | .list _, h => by simp [plain] at h
  | .dict _, h => by simp [plain] at h
theorem plains_lay : ∀ ds : List PyData, plains ds = true → PyData.canLayAll0 ds = true
  | [], _ => rfl
  | d :: ds, h => by
    have h' : plain d = true ∧ plains ds = true := by simpa [plains] using h
    simp [PyData.canLayAll0, plain_lay d h'.1, plains_lay ds h'.2]
end
mutual
theorem plain_lf : ∀ d : PyData, plain d = true → lf d = true
  | .int _, _ => rfl
  | .str s, h => rfl
  | .tuple ds, h => by simpa [lf] using plains_lf ds (by simpa [plain] using h)
  | .none, h => by simp [plain] at h
  | .bool _, h => by simp [plain] at h
  | .list _, h => by simp [plain] at h
  | .dict _, h => by simp [plain] at h
theorem plains_lf : ∀ ds : List PyData, plains ds = true → lfs ds = true
  | [], _ => rfl
  | d :: ds, h => by
    have h' : plain d = true ∧ plains ds = true := by simpa [plains] using h
    simp [lfs, plain_lf d h'.1, plains_lf ds h'.2]
end
mutual
theorem plain_eqv : ∀ d : PyData, plain d = true → PyData.eqv d d = true
  | .int _, _ => by simp [PyData.eqv]
  | .str s, h => by simp [PyData.eqv]
  | .tuple ds, h => by simpa [PyData.eqv] using plains_eqv ds (by simpa [plain] using h)
  | .none, h => by simp [plain] at h
  | .bool _, h => by simp [plain] at h
  | .list _, h => by simp [plain] at h
  | .dict _, h => by simp [plain] at h
theorem plains_eqv : ∀ ds : List PyData, plains ds = true → PyData.eqvAll ds ds = true
  | [], _ => rfl
  | d :: ds, h => by
    have h' : plain d = true ∧ plains ds = true := by simpa [plains] using h
    simp [PyData.eqvAll, plain_eqv d h'.1, plains_eqv ds h'.2]
end
theorem enc_plain : ∀ k : Kd, plain (enc k) = true
  | .none => by simp [enc, plain, plains, ok_none]
  | .one => by simp [enc, plain, plains, ok_one]
  | .name _ => by simp [enc, plain, plains, ok_name]
  | .either a b => by simp [enc, plain, plains, ok_either, enc_plain a, enc_plain b]
  | .both a b => by simp [enc, plain, plains, ok_both, enc_plain a, enc_plain b]
theorem enc_wsz : ∀ k : Kd, wsz (enc k) + 2 ≤ 5 * k.leaves
  | .none => by simp [enc, wsz, wszs, Kd.leaves]
  | .one => by simp [enc, wsz, wszs, Kd.leaves]
  | .name _ => by simp [enc, wsz, wszs, Kd.leaves]
  | .either a b => by have := enc_wsz a; have := enc_wsz b; simp [enc, wsz, wszs, Kd.leaves]; omega
  | .both a b => by have := enc_wsz a; have := enc_wsz b; simp [enc, wsz, wszs, Kd.leaves]; omega
end KT
set_option Elab.async false
set_option linter.all false
set_option maxRecDepth 100000
namespace KT
open PySem
/-! ### whole numbers, things that hold nothing else -/
theorem whole_ok (n : Nat) (d : PyData) (hd : ∀ kvs, d ≠ .dict kvs := by intro _ h; cases h) : m_law_whole (n + 1) [d] = some (.ok (.bool (isTy .int d && !isTy .bool d))) := by
  unfold m_law_whole
  have hi : ∀ t, dIs t d = some (.bool (isTy t d)) := fun t => by cases d <;> first | rfl | exact absurd rfl (hd _)
  cases h : isTy .int d <;> cases h2 : isTy .bool d <;> simp [runB, b_law_whole, sRet, eAnd, eNot, eIs, e1, hi, eVar, bindE, bindS, h, h2, lf]
end KT
set_option Elab.async false
set_option linter.all false
set_option maxRecDepth 100000
namespace KT
open PySem
/-! ### a thing looked through -/
def wtBody (n : Nat) : FS := (sSeq (sPop 2 1) (sIf (eIs .tuple (eVar 2)) (sExtend 1 (eVar 2)) (sIf (eAnd (eNot (eCall (m_law_whole n) [(eVar 2)])) (eNot (eIs .str (eVar 2)))) (sRet (eC (.bool false))) sNext)))
def wtTest : FE := (eNe (eVar 1) (eLst []))
theorem ne_nilT (xs : List PyData) (h : PyData.canLayAll0 xs = true) : dNe (.list xs) (.list []) = some (.bool (!xs.isEmpty)) := by
  have h1 : eqOk (.list xs) (.list []) = true := by
    simp [eqOk, PyData.canLay0, h, PyData.canLayAll0, PyData.depth, PyData.depthAll]
  cases xs <;> simp [dNe, dEqB, h1, PyData.eqv, PyData.eqvAll]
theorem wt_test (a : Option Slot) (xs : List PyData) (x : Option Slot) (h : PyData.canLayAll0 xs = true) : wtTest [a, some (.own xs), x] = some (.ok 2 (.bool (!xs.isEmpty))) := by
  simp [wtTest, eNe, e2, eVar, eLst, eArgs, bindI, bindE, lfs, ne_nilT xs h]
theorem wt_loop (n : Nat) (a : Option Slot) : ∀ (fuel : Nat) (xs : List PyData) (x : Option Slot), plains xs = true → wszs xs < fuel → wszs xs ≤ 5000 →
    ∃ x', whileGo wtTest (wtBody (n + 1)) fuel [a, some (.own xs), x] = some (.next [a, some (.own []), x'])
  | 0, _, _, _, h, _ => by omega
  | fuel + 1, xs, x, hp, hf, hz => by
    have hl := plains_lay xs hp
    rcases List.eq_nil_or_concat xs with rfl | ⟨s, t, rfl⟩
    · exact ⟨x, by simp [whileGo, wt_test _ _ _ hl, bindS]⟩
    · rw [List.concat_eq_append] at *
      have hp' : plains s = true ∧ plain t = true := by simpa [plains_app, plains] using hp
      rw [wszs_app] at hf hz
      have hpos := wsz_pos t
      simp only [wszs] at hf hz
      have hlen := wszs_len s
      unfold whileGo
      rw [wt_test _ _ _ hl]
      have hne : (s ++ [t]).isEmpty = false := by simp
      cases t with
      | int i =>
        obtain ⟨x', e⟩ := wt_loop n a fuel s (some (.loc (.int i))) hp'.1 (by simp only [wsz] at *; omega) (by omega)
        refine ⟨x', ?_⟩
        have t : wtBody (n + 1) [a, some (.own (s ++ [.int i])), x] = some (.next [a, some (.own s), some (.loc (.int i))]) := by
          simp [wtBody, sSeq, sPop, sIf, eIs, e1, dIs, isTy, eVar, bindE, bindS, eAnd, eNot, eCall, eArgs, bindI, whole_ok, ofRC, sNext]
        simp only [bindS, hne, Bool.not_false, t]
        exact e
      | str i =>
        obtain ⟨x', e⟩ := wt_loop n a fuel s (some (.loc (.str i))) hp'.1 (by simp only [wsz] at *; omega) (by omega)
        refine ⟨x', ?_⟩
        have t : wtBody (n + 1) [a, some (.own (s ++ [.str i])), x] = some (.next [a, some (.own s), some (.loc (.str i))]) := by
          simp [wtBody, sSeq, sPop, sIf, eIs, e1, dIs, isTy, eVar, bindE, bindS, eAnd, eNot, eCall, eArgs, bindI, whole_ok, ofRC, sNext]
        simp only [bindS, hne, Bool.not_false, t]
        exact e
      | tuple ds =>
        have hd : plains ds = true := by simpa [plain] using hp'.2
        simp only [wsz] at hf hz
        obtain ⟨x', e⟩ := wt_loop n a fuel (s ++ ds) (some (.loc (.tuple ds))) (by rw [plains_app, hp'.1, hd]; rfl) (by rw [wszs_app]; omega) (by rw [wszs_app]; omega)
        have hld := wszs_len ds
        have hb : s.length + ds.length ≤ big := by unfold big; omega
        refine ⟨x', ?_⟩
        have t : wtBody (n + 1) [a, some (.own (s ++ [.tuple ds])), x] = some (.next [a, some (.own (s ++ ds)), some (.loc (.tuple ds))]) := by
          simp [wtBody, sSeq, sPop, sIf, eIs, e1, dIs, isTy, eVar, bindE, bindS, sExtend, plains_lf ds hd, hb]
        simp only [bindS, hne, Bool.not_false, t]
        exact e
      | none => simp [plain] at hp'
      | bool _ => simp [plain] at hp'
      | list _ => simp [plain] at hp'
      | dict _ => simp [plain] at hp'
theorem whole_thing_ok (n : Nat) (d : PyData) (h : plain d = true) (hz : wsz d ≤ 5000) : m_law_whole_thing (n + 2) [d] = some (.ok (.bool true)) := by
  have e : b_law_whole_thing (m_law_whole (n + 1)) = sSeq (sSet 1 (eLst [(eVar 0)])) (sSeq (sWhile wtTest (wtBody (n + 1))) (sRet (eC (.bool true)))) := rfl
  show runB 3 (b_law_whole_thing (m_law_whole (n + 1))) [d] = _
  rw [e]
  obtain ⟨x', q⟩ := wt_loop n (some (.par d)) wFuel [d] none (by simp [plains, h]) (by simp only [wszs]; unfold wFuel; omega) (by simp only [wszs]; omega)
  simp [runB, sSeq, sSet, eLst, eArgs, eVar, bindI, bindS, lfs, plain_lf d h, asg, lf, sWhile, q, sRet, eC]
end KT
set_option Elab.async false
set_option linter.all false
set_option maxRecDepth 100000
namespace KT
open PySem
theorem eq_self (d : PyData) (h : plain d = true) (hd : d.depth ≤ 60) : dEq d d = some (.bool true) := by
  have h1 : eqOk d d = true := by simp [eqOk, plain_lay d h]; omega
  cases d <;> simp [dEq, dEqB, h1, plain_eqv _ h] <;> simp [plain] at h
end KT
set_option Elab.async false
set_option linter.all false
set_option maxRecDepth 100000
namespace KT
open PySem
theorem same_ok (n : Nat) (d : PyData) (h : plain d = true) (hz : wsz d ≤ 5000) (hd : d.depth ≤ 60) : m_law_same (n + 3) [d, d] = some (.ok (.bool true)) := by
  unfold m_law_same
  simp [runB, b_law_same, sRet, eAnd, eCall, eArgs, eVar, bindI, bindE, bindS, whole_thing_ok n d h hz, ofRC, eEq, e2, eq_self d h hd, lf]
end KT
set_option Elab.async false
set_option linter.all false
set_option maxRecDepth 100000
namespace KT
open PySem
def stirM (c fac : Int) : Int := ((c * fac + 7919) % 2147483647) * ((c * fac + 7919) % 2147483647) % 2147483647 * 40692 % 2147483399
def stirS (c f fac : Int) : Int := f * 1000000000 + stirM c fac / 7
def stirBody : FS := (sSeq (sSet 3 (eMod (eAdd (eMul (eVar 0) (eVar 2)) (eC (.int 7919))) (eC (.int 2147483647)))) (sSeq (sSet 3 (eMod (eMul (eMod (eMul (eVar 3) (eVar 3)) (eC (.int 2147483647))) (eC (.int 40692))) (eC (.int 2147483399)))) (sSet 1 (eAdd (eMul (eVar 1) (ePow (eC (.int 10)) (eC (.int 9)))) (eDiv (eVar 3) (eC (.int 7)))))))
theorem stir_turn (c f fac : Int) (x : Option Slot) (h : fac.natAbs < 2 ^ 64) : stirBody [some (.par (.int c)), some (.loc (.int f)), some (.loc (.int fac)), x] =
    some (.next [some (.par (.int c)), some (.loc (.int (stirS c f fac))), some (.loc (.int fac)), some (.loc (.int (stirM c fac)))]) := by
  have b1 := Int.emod_nonneg (c * fac + 7919) (b := 2147483647) (by decide)
  have b2 := Int.emod_lt_of_pos (c * fac + 7919) (b := 2147483647) (by decide)
  have h1 : CMulD c fac := mulR h
  have h2 : CMulD ((c * fac + 7919) % 2147483647) ((c * fac + 7919) % 2147483647) := mulR (by omega)
  have h3 : ∀ i : Int, CMulD i 40692 := fun i => mulR (by decide)
  have h4 : ∀ i : Int, CMulD i 1000000000 := fun i => mulR (by decide)
  simp [stirBody, sSeq, sSet, eMod, eAdd, eMul, eVar, eC, ePow, eDiv, e2, bindE, bindS, dAdd, dMod, dMul, dDiv, dPow, h1, h2, h3, h4, asg, lf, lim, stirS, stirM]

def stirV (c : Int) : Int := stirS c (stirS c (stirS c (stirS c 0 48271) 69621) 39373) 44488
theorem stir_ok (n : Nat) (c : Int) : m_law_stir (n + 1) [.int c] = some (.ok (.int (stirV c))) := by
  have e : b_law_stir = sSeq (sSet 1 (eC (.int 0))) (sSeq (sFor (iSeq (eLst [(eC (.int 48271)), (eC (.int 69621)), (eC (.int 39373)), (eC (.int 44488))])) (tgName 2) stirBody) (sRet (eVar 1))) := rfl
  unfold m_law_stir
  rw [e]
  simp [runB, sSeq, sSet, eC, bindS, asg, lf, lfs, sFor, iSeq, eLst, eArgs, bindI, forGo, tgName, stir_turn, sRet, eVar, stirV]
def cellV (ns : List Int) (k : Nat) : Int := stirV (ns.getD k 0)
theorem atP_nat {α : Type} {xs : List α} {k : Nat} {v : α} (h : xs[k]? = some v) : atP xs (k : Int) = some v := by
  have hk : k < xs.length := (List.getElem?_eq_some_iff.mp h).1
  unfold atP ixP
  rw [if_pos (by omega), if_pos (by omega)]
  simpa using h
theorem cell_ok (n : Nat) (ns : List Int) (k : Nat) : m_law_cell (n + 2) [.list (ns.map .int), .int (k : Int)] = some (.ok (.int (cellV ns k))) := by
  unfold m_law_cell
  by_cases h : k < ns.length
  · have hx : atP (ns.map PyData.int) (k : Int) = some (.int ns[k]) := atP_nat (by simp [h])
    have hc : (k : Int) < (ns.length : Int) := by omega
    simp [runB, b_law_cell, sSeq, sIf, eLt, e2, eVar, eLen, e1, dLen, dLt, bindE, bindS, hc, sRet, eCall, eArgs, bindI, eIx, dIx, hx, stir_ok, ofRC, lf, cellV, h]
  · have hc : ¬ (k : Int) < (ns.length : Int) := by omega
    have hg : ns[k]? = none := List.getElem?_eq_none (Nat.le_of_not_lt h)
    simp [runB, b_law_cell, sSeq, sIf, eLt, e2, eVar, eLen, e1, dLen, dLt, bindE, bindS, hc, sNext, sRet, eCall, eC, eArgs, bindI, stir_ok, ofRC, lf, cellV, hg]
def drawV (c k b : Int) : Int :=
  let s1 := (c % 2147483629 + 1 + k * 1000003) % 2147483647
  let s2 := s1 * s1 % 2147483647 * 48271 % 2147483629
  let s3 := s2 * s2 % 2147483629 * 40692 % 2147483399
  s3 / 97 % b
theorem drawV_nn {c k b : Int} (h : 0 < b) : 0 ≤ drawV c k b := Int.emod_nonneg _ (by omega)
theorem drawV_lt {c k b : Int} (h : 0 < b) : drawV c k b < b := Int.emod_lt_of_pos _ h
theorem draw_ok (n : Nat) (c k b : Int) (h : 0 < b) : m_law_draw (n + 1) [.int c, .int k, .int b] = some (.ok (.int (drawV c k b))) := by
  have a1 := Int.emod_nonneg (c % 2147483629 + 1 + k * 1000003) (b := 2147483647) (by decide)
  have a2 := Int.emod_lt_of_pos (c % 2147483629 + 1 + k * 1000003) (b := 2147483647) (by decide)
  generalize hs1 : (c % 2147483629 + 1 + k * 1000003) % 2147483647 = s1 at a1 a2
  have b1 := Int.emod_nonneg (s1 * s1 % 2147483647 * 48271) (b := 2147483629) (by decide)
  have b2 := Int.emod_lt_of_pos (s1 * s1 % 2147483647 * 48271) (b := 2147483629) (by decide)
  generalize hs2 : s1 * s1 % 2147483647 * 48271 % 2147483629 = s2 at b1 b2
  have m1 : CMulD k 1000003 := mulR (by decide)
  have m2 : CMulD s1 s1 := mulR (by omega)
  have m3 : ∀ i : Int, CMulD i 48271 := fun i => mulR (by decide)
  have m4 : CMulD s2 s2 := mulR (by omega)
  have m5 : ∀ i : Int, CMulD i 40692 := fun i => mulR (by decide)
  unfold m_law_draw
  simp [runB, b_law_draw, sSeq, sSet, eMod, eAdd, eMul, eVar, eC, eDiv, e2, bindE, bindS, dAdd, dMod, dMul, dDiv, m1, hs1, m2, m3, hs2, m4, m5, asg, lf, lim, sRet, h, drawV]
end KT
set_option Elab.async false
set_option linter.all false
set_option maxRecDepth 100000
namespace KT
open PySem
/-! ### reading the body of a def -/
theorem kind_leaf (n : Nat) (c leaves k : Int) (h : leaves < 2) : ∃ kd : Kd, m_law_kind (n + 2) [.int c, .int leaves, .int k] = some (.ok (enc kd)) ∧ kd.Ok ∧ kd.leaves = 1 := by
  have d0 := drawV_nn (c := c) (k := 5 * k) (b := 12) (by decide)
  have d1 := drawV_lt (c := c) (k := 5 * k) (b := 12) (by decide)
  have e := draw_ok n c (5 * k) 12 (by decide)
  have m5 : CMulD 5 k := mulL (by decide)
  generalize drawV c (5 * k) 12 = w at d0 d1 e
  by_cases w0 : w = 0
  · exact ⟨.none, by unfold m_law_kind; simp [runB, b_law_kind, sSeq, sIf, eLt, e2, eVar, eC, bindE, bindS, dLt, h, sSet, eCall, eArgs, bindI, eMul, dMul, m5, e, ofRC, asg, lf, lfs, eEq, dEq, dEqB, w0, sRet, eTup, enc], trivial, rfl⟩
  · have w0' : (w == 0) = false := by simp [w0]
    by_cases w3 : w < 3
    · exact ⟨.one, by unfold m_law_kind; simp [runB, b_law_kind, sSeq, sIf, eLt, e2, eVar, eC, bindE, bindS, dLt, h, sSet, eCall, eArgs, bindI, eMul, dMul, m5, e, ofRC, asg, lf, lfs, eEq, dEq, dEqB, w0', w3, sNext, sRet, eTup, enc], trivial, rfl⟩
    · refine ⟨.name (w % 4), by unfold m_law_kind; simp [runB, b_law_kind, sSeq, sIf, eLt, e2, eVar, eC, bindE, bindS, dLt, h, sSet, eCall, eArgs, bindI, eMul, dMul, m5, e, ofRC, asg, lf, lfs, eEq, dEq, dEqB, w0', w3, sNext, sRet, eTup, eMod, dMod, enc], ?_, rfl⟩
      show 0 ≤ w % 4 ∧ w % 4 ≤ 3
      omega
theorem kind_ok : ∀ (L n : Nat) (c leaves k : Int), leaves ≤ L → L + 1 ≤ n → ∃ kd : Kd, m_law_kind (n + 1) [.int c, .int leaves, .int k] = some (.ok (enc kd)) ∧ kd.Ok ∧ (kd.leaves : Int) ≤ max leaves 1
  | 0, n + 1, c, leaves, k, h, _ => by
    obtain ⟨kd, e, o, l⟩ := kind_leaf n c leaves k (by omega)
    exact ⟨kd, e, o, by omega⟩
  | L + 1, n + 1, c, leaves, k, h, hn => by
    by_cases h2 : leaves < 2
    · obtain ⟨kd, e, o, l⟩ := kind_leaf n c leaves k h2
      exact ⟨kd, e, o, by omega⟩
    · have m5 : CMulD 5 k := mulL (by decide)
      have m2 : CMulD 2 k := mulL (by decide)
      have e1 := draw_ok n c (5 * k + 1) (leaves - 1) (by omega)
      have d0 := drawV_nn (c := c) (k := 5 * k + 1) (b := leaves - 1) (by omega)
      have d1 := drawV_lt (c := c) (k := 5 * k + 1) (b := leaves - 1) (by omega)
      have e2' := draw_ok n c (5 * k + 2) 2 (by decide)
      have d2 := drawV_nn (c := c) (k := 5 * k + 2) (b := 2) (by decide)
      have d3 := drawV_lt (c := c) (k := 5 * k + 2) (b := 2) (by decide)
      generalize drawV c (5 * k + 1) (leaves - 1) = u at d0 d1 e1
      generalize drawV c (5 * k + 2) 2 = w at d2 d3 e2'
      obtain ⟨ka, ea, oa, la⟩ := kind_ok L n c (1 + u) (2 * k) (by omega) (by omega)
      obtain ⟨kb, eb, ob, lb⟩ := kind_ok L n c (leaves - (1 + u)) (2 * k + 1) (by omega) (by omega)
      have hw : w = 0 ∨ w = 1 := by omega
      rcases hw with rfl | rfl
      · refine ⟨.either ka kb, ?_, ⟨oa, ob⟩, by simp only [Kd.leaves]; push_cast; omega⟩
        unfold m_law_kind
        simp [runB, b_law_kind, sSeq, sIf, eLt, e2, eVar, eC, bindE, bindS, dLt, h2, sSet, eCall, eArgs, bindI, eMul, dMul, m5, m2, e1, e2', ea, eb, ofRC, asg, lf, lfs, sNext, eAdd, dAdd, eSub, dSub, eIx, eLst, dIx, atP, ixP, sRet, eTup, enc, enc_lf]
      · refine ⟨.both ka kb, ?_, ⟨oa, ob⟩, by simp only [Kd.leaves]; push_cast; omega⟩
        unfold m_law_kind
        simp [runB, b_law_kind, sSeq, sIf, eLt, e2, eVar, eC, bindE, bindS, dLt, h2, sSet, eCall, eArgs, bindI, eMul, dMul, m5, m2, e1, e2', ea, eb, ofRC, asg, lf, lfs, sNext, eAdd, dAdd, eSub, dSub, eIx, eLst, dIx, atP, ixP, sRet, eTup, enc, enc_lf]
end KT
set_option Elab.async false
set_option linter.all false
set_option maxRecDepth 100000
namespace KT
open PySem
def good (z : Str) (B : Nat) : Prop := (cps z).length ≤ B ∧ ∀ c ∈ cps z, c < 128
theorem len_cps (z : Str) : z.length = (cps z).length := by simp [Str.length, cps]
theorem text_leaves : ∀ k : Kd, (textK k).length + 3 = 4 * k.leaves
  | .none => by rw [show textK .none = ch 48 from s_0]; simp [l1, Kd.leaves]
  | .one => by rw [show textK .one = ch 49 from s_1]; simp [l1, Kd.leaves]
  | .name i => by simp [textK, l1, Kd.leaves]
  | .either a b => by
    have := text_leaves a; have := text_leaves b
    simp only [textK, slen, Kd.leaves, s_op, s_cl, s_pl, l1]
    omega
  | .both a b => by
    have := text_leaves a; have := text_leaves b
    simp only [textK, slen, Kd.leaves, s_op, s_cl, s_ti, l1]
    omega
theorem due_ok (n : Nat) (z : Str) (h : good z 4000) (hn : (cps z).length < n) : m_law_due n [.str z] = some (.ok (optK (readR (cps z)))) := by
  have e := law_due_ok n (cps z) hn (by have := h.1; omega) h.2
  rw [sZ_cps, due_read n (cps z) hn] at e
  exact e
def toldD : Option Kd → PyData
  | some k => enc k
  | none => .list [.bool true, .bool true, .bool false]
theorem told_ok (n : Nat) (z : Str) (h : good z 4000) : m_law_told (n + 4) [.str z] = some (.ok (toldD (readR (cps z)))) := by
  have e := read_ok n z (by rw [len_cps]; have := h.1; omega) h.2
  show runB 2 (b_law_told (m_read (n + 3))) _ = _
  cases hr : readR (cps z) with
  | some k =>
    unfold cps at hr
    rw [hr] at e
    simp only at e
    have lk := enc_lf k
    simp only [toldD]
    generalize enc k = D at e lk
    simp [runB, b_law_told, sTry, sRet, eCall, eArgs, eVar, bindI, bindS, e, ofRC, lk]
  | none =>
    unfold cps at hr
    rw [hr] at e
    simp only at e
    simp only [toldD]
    simp [runB, b_law_told, sTry, sRet, eCall, eArgs, eVar, bindI, bindS, e, ofRC, sub_KindError, eLst, eIsX, sub_NotRead, sub_ValueError, sub_NoThing, lf, lfs]
/-! ### the texts that the law makes -/
theorem cut_to (cs : List Nat) (a : Nat) : cutP cs none (some (a : Int)) = cs.take a := by
  unfold cutP
  have e : sxP cs.length cs.length (some (a : Int)) = min a cs.length := by
    simp only [sxP]
    rw [if_neg (by omega)]
    simp
  rw [e]
  simp only [sxP, List.drop_zero, Nat.sub_zero]
  by_cases h : a ≤ cs.length
  · rw [Nat.min_eq_left h]
  · rw [Nat.min_eq_right (by omega), List.take_of_length_le (Nat.le_refl _), List.take_of_length_le (by omega)]
theorem cut_from (cs : List Nat) (a : Nat) : cutP cs (some (a : Int)) none = cs.drop a := by
  unfold cutP
  have e : sxP cs.length 0 (some (a : Int)) = min a cs.length := by
    simp only [sxP]
    rw [if_neg (by omega)]
    simp
  rw [e]
  simp only [sxP]
  by_cases h : a ≤ cs.length
  · rw [Nat.min_eq_left h, List.take_of_length_le (by rw [List.length_drop]; omega)]
  · rw [Nat.min_eq_right (by omega), List.drop_eq_nil_of_le (Nat.le_refl _), List.drop_eq_nil_of_le (by omega)]
    simp
theorem sl_to (z : Str) (a : Nat) (h : z.length ≤ big) : dSlS none (some (a : Int)) (.str z) = some (.str (sZ ((cps z).take a))) := by
  simp only [dSlS]
  rw [if_pos h]
  have := cut_to (cps z) a
  unfold cps at this
  rw [this]
  rfl
theorem sl_from (z : Str) (a : Nat) (h : z.length ≤ big) : dSlS (some (a : Int)) none (.str z) = some (.str (sZ ((cps z).drop a))) := by
  simp only [dSlS]
  rw [if_pos h]
  have := cut_from (cps z) a
  unfold cps at this
  rw [this]
  rfl
theorem s_16 : ("()+*01abcde -x2A" : Str) = ⟨#[40, 41, 43, 42, 48, 49, 97, 98, 99, 100, 101, 32, 45, 120, 50, 65]⟩ := by decide +kernel
theorem sign_at (r : Int) (h0 : 0 ≤ r) (h1 : r < 16) : ∃ c, c < 128 ∧ dIx (.str "()+*01abcde -x2A") (.int r) = some (.str (ch c)) := by
  rw [s_16]
  have : r = 0 ∨ r = 1 ∨ r = 2 ∨ r = 3 ∨ r = 4 ∨ r = 5 ∨ r = 6 ∨ r = 7 ∨ r = 8 ∨ r = 9 ∨ r = 10 ∨ r = 11 ∨ r = 12 ∨ r = 13 ∨ r = 14 ∨ r = 15 := by omega
  rcases this with rfl | rfl | rfl | rfl | rfl | rfl | rfl | rfl | rfl | rfl | rfl | rfl | rfl | rfl | rfl | rfl <;> exact ⟨_, by decide, rfl⟩
theorem good_app {x y : Str} {a b : Nat} (hx : good x a) (hy : good y b) : good (x ++ y) (a + b) := by
  refine ⟨?_, fun c hc => ?_⟩
  · rw [cps_app, List.length_append]
    have := hx.1; have := hy.1
    omega
  · rw [cps_app] at hc
    rcases List.mem_append.mp hc with h | h
    · exact hx.2 c h
    · exact hy.2 c h
theorem good_up {x : Str} {a b : Nat} (h : good x a) (hab : a ≤ b) : good x b := ⟨Nat.le_trans h.1 hab, h.2⟩
theorem good_ch {c : Nat} (h : c < 128) : good (ch c) 1 := ⟨by simp [cps_ch], fun q hq => by rw [cps_ch] at hq; simp at hq; omega⟩
theorem good_take {z : Str} {B : Nat} (h : good z B) (a : Nat) : good (sZ ((cps z).take a)) (min a B) := by
  refine ⟨?_, fun c hc => ?_⟩
  · rw [cps_sZ, List.length_take]
    have := h.1
    omega
  · rw [cps_sZ] at hc
    exact h.2 c (List.mem_of_mem_take hc)
theorem good_drop {z : Str} {B : Nat} (h : good z B) (a : Nat) : good (sZ ((cps z).drop a)) (B - a) := by
  refine ⟨?_, fun c hc => ?_⟩
  · rw [cps_sZ, List.length_drop]
    have := h.1
    omega
  · rw [cps_sZ] at hc
    exact h.2 c (List.mem_of_mem_drop hc)
theorem add_good {x y : Str} {a b : Nat} (hx : good x a) (hy : good y b) (h : a + b ≤ 4000) : dAdd (.str x) (.str y) = some (.str (x ++ y)) := addSS (by
  have hb : 4000 ≤ big := by decide
  rw [len_cps, len_cps]
  have := hx.1; have := hy.1
  omega)
theorem changed_ok (n : Nat) (z : Str) (cell : Int) (B : Nat) (h : good z B) (hB : B ≤ 1000) : ∃ z', m_law_changed (n + 1) [.str z, .int cell] = some (.ok (.str z')) ∧ good z' (B + 1) := by
  show ∃ z', runB 5 b_law_changed [.str z, .int cell] = some (.ok (.str z')) ∧ good z' (B + 1)
  have hb : 4000 ≤ big := by decide
  have hz : z.length ≤ big := by rw [len_cps]; have := h.1; omega
  have hl : dLen (.str z) = some (.int ((cps z).length : Int)) := by
    simp only [dLen]
    rw [if_pos hz, len_cps]
  have hm1 : dMod (.int cell) (.int (((cps z).length : Int) + 1)) = some (.int (cell % (((cps z).length : Int) + 1))) := mod_ok (by omega)
  have p0 := Int.emod_nonneg cell (b := ((cps z).length : Int) + 1) (by omega)
  have p1 := Int.emod_lt_of_pos cell (b := ((cps z).length : Int) + 1) (by omega)
  obtain ⟨a, ha⟩ : ∃ a : Nat, cell % (((cps z).length : Int) + 1) = (a : Int) := ⟨_, (Int.toNat_of_nonneg p0).symm⟩
  rw [ha] at hm1 p1
  have haB : a ≤ B := by have := h.1; omega
  have hd1 : dDiv (.int cell) (.int 512) = some (.int (cell / 512)) := div_ok (by decide) (by decide)
  have hm2 : dMod (.int (cell / 512)) (.int 16) = some (.int (cell / 512 % 16)) := mod_ok (by decide)
  obtain ⟨c, hc, hs⟩ := sign_at (cell / 512 % 16) (Int.emod_nonneg _ (by decide)) (Int.emod_lt_of_pos _ (by decide))
  have hd2 : dDiv (.int cell) (.int 16384) = some (.int (cell / 16384)) := div_ok (by decide) (by decide)
  have hm3 : dMod (.int (cell / 16384)) (.int 3) = some (.int (cell / 16384 % 3)) := mod_ok (by decide)
  have s1 := sl_to z a hz
  have s2 := sl_from z (a + 1) hz
  have s3 := sl_from z a hz
  have g1 := good_take h a
  have g2 := good_drop h (a + 1)
  have g3 := good_drop h a
  have gc := good_ch hc
  have a1 := add_good g1 g2 (by omega)
  have a2 := add_good g1 gc (by omega)
  have a3 := add_good (good_app g1 gc) g3 (by omega)
  have a4 := add_good (good_app g1 gc) g2 (by omega)
  have r1 : good (sZ ((cps z).take a) ++ sZ ((cps z).drop (a + 1))) (B + 1) := good_up (good_app g1 g2) (by omega)
  have r2 : good ((sZ ((cps z).take a) ++ ch c) ++ sZ ((cps z).drop a)) (B + 1) := good_up (good_app (good_app g1 gc) g3) (by omega)
  have r3 : good ((sZ ((cps z).take a) ++ ch c) ++ sZ ((cps z).drop (a + 1))) (B + 1) := good_up (good_app (good_app g1 gc) g2) (by omega)
  have hcast : ((a : Int) + 1) = ((a + 1 : Nat) : Int) := by omega
  have ad1 : dAdd (.int (a : Int)) (.int 1) = some (.int ((a + 1 : Nat) : Int)) := by rw [addII, hcast]
  have ad0 : dAdd (.int ((cps z).length : Int)) (.int 1) = some (.int (((cps z).length : Int) + 1)) := rfl
  clear g1 g2 g3 gc p0 p1 hcast ha h haB
  generalize (sZ ((cps z).take a) ++ ch c) ++ sZ ((cps z).drop a) = w2 at a3 r2
  generalize (sZ ((cps z).take a) ++ ch c) ++ sZ ((cps z).drop (a + 1)) = w3 at a4 r3
  generalize sZ ((cps z).take a) ++ sZ ((cps z).drop (a + 1)) = w1 at a1 r1
  generalize sZ ((cps z).take a) ++ ch c = w0 at a2 a3 a4
  generalize sZ ((cps z).take a) = u1 at s1 a1 a2
  generalize sZ ((cps z).drop (a + 1)) = u2 at s2 a1 a4
  generalize sZ ((cps z).drop a) = u3 at s3 a3
  generalize ((a + 1 : Nat) : Int) = A1 at s2 ad1
  generalize (a : Int) = A0 at s1 s3 ad1 hm1
  generalize (((cps z).length : Int) + 1) = L1 at hm1 ad0
  generalize ((cps z).length : Int) = L0 at hl ad0
  generalize cell / 16384 = cd at hd2 hm3
  generalize cell / 512 % 16 = q1 at hm2 hs
  generalize cell / 512 = q0 at hd1 hm2
  have m0 := Int.emod_nonneg cd (b := 3) (by decide)
  have m1 := Int.emod_lt_of_pos cd (b := 3) (by decide)
  generalize cd % 3 = md at m0 m1 hm3
  have hmd : md = 0 ∨ md = 1 ∨ md = 2 := by omega
  rcases hmd with rfl | rfl | rfl
  · refine ⟨w1, ?_, r1⟩
    simp [runB, b_law_changed, sSeq, sSet, eMod, e2, eVar, eAdd, eLen, e1, eC, eDiv, eIx, bindE, bindS, hl, ad0, hm1, asg_int, hd1, hm2, hs, asg_str, hd2, hm3, sIf, eEq, eqII, sRet, eSlS, oNone, oSome, s1, ad1, s2, a1, lf]
  · refine ⟨w2, ?_, r2⟩
    simp [runB, b_law_changed, sSeq, sSet, eMod, e2, eVar, eAdd, eLen, e1, eC, eDiv, eIx, bindE, bindS, hl, ad0, hm1, asg_int, hd1, hm2, hs, asg_str, hd2, hm3, sIf, eEq, eqII, sNext, sRet, eSlS, oNone, oSome, s1, s3, a2, a3, lf]
  · refine ⟨w3, ?_, r3⟩
    simp [runB, b_law_changed, sSeq, sSet, eMod, e2, eVar, eAdd, eLen, e1, eC, eDiv, eIx, bindE, bindS, hl, ad0, hm1, asg_int, hd1, hm2, hs, asg_str, hd2, hm3, sIf, eEq, eqII, sNext, sRet, eSlS, oNone, oSome, s1, ad1, s2, a2, a4, lf]
def odd1 : List Str := ["", "()", "(a)", "a+b", "(a+b", "a+b)", "(a+b+c)", "(a b)", " a", "(+a)"]
def odd2 : List Str := ["(a*)", "ab", "((a+b))", "10"]
theorem odd_good : ∀ z ∈ odd1 ++ odd2, good z 8 := by
  have h : (odd1 ++ odd2).all (fun z => decide ((cps z).length ≤ 8) && (cps z).all fun c => decide (c < 128)) = true := by decide +kernel
  intro z hz
  have := List.all_eq_true.mp h z hz
  simp only [Bool.and_eq_true, decide_eq_true_eq, List.all_eq_true] at this
  exact ⟨this.1, fun c hc => this.2 c hc⟩
theorem odd_ok (n : Nat) (cell : Int) : ∃ z', m_law_odd (n + 1) [.int cell] = some (.ok (.str z')) ∧ good z' 8 := by
  show ∃ z', runB 2 b_law_odd [.int cell] = some (.ok (.str z')) ∧ good z' 8
  have hm : dMod (.int cell) (.int 14) = some (.int (cell % 14)) := mod_ok (by decide)
  have m0 := Int.emod_nonneg cell (b := 14) (by decide)
  have m1 := Int.emod_lt_of_pos cell (b := 14) (by decide)
  generalize cell % 14 = r at hm m0 m1
  obtain ⟨z, hz, hi⟩ : ∃ z, z ∈ odd1 ++ odd2 ∧ dIx (.list ((odd1 ++ odd2).map .str)) (.int r) = some (.str z) := by
    obtain ⟨i, rfl⟩ : ∃ i : Nat, r = (i : Int) := ⟨_, (Int.toNat_of_nonneg m0).symm⟩
    have hi : i < (odd1 ++ odd2).length := by simp [odd1, odd2]; omega
    refine ⟨(odd1 ++ odd2)[i], List.getElem_mem hi, ?_⟩
    simp only [dIx]
    unfold atP ixP
    rw [if_pos (by omega), if_pos (by rw [List.length_map]; omega)]
    simp only [Option.bind_some, Int.toNat_natCast, List.getElem?_map, List.getElem?_eq_getElem hi, Option.map_some]
  refine ⟨z, ?_, odd_good z hz⟩
  have hadd : dAdd (.list (odd1.map .str)) (.list (odd2.map .str)) = some (.list ((odd1 ++ odd2).map .str)) := by kernel_rfl
  have ha : asg 2 (.list (odd1.map .str)) = some (.own (odd1.map .str)) := by simp [odd1, asg, lf, lfs]
  have e1l : eLst [(eC (.str "")), (eC (.str "()")), (eC (.str "(a)")), (eC (.str "a+b")), (eC (.str "(a+b")), (eC (.str "a+b)")), (eC (.str "(a+b+c)")), (eC (.str "(a b)")), (eC (.str " a")), (eC (.str "(+a)"))] [some (.par (.int cell)), none] = some (.ok 2 (.list (odd1.map .str))) := rfl
  have e2l : eLst [(eC (.str "(a*)")), (eC (.str "ab")), (eC (.str "((a+b))")), (eC (.str "10"))] [some (.par (.int cell)), some (.own (odd1.map .str))] = some (.ok 2 (.list (odd2.map .str))) := rfl
  unfold b_law_odd
  generalize eLst [(eC (.str "")), (eC (.str "()")), (eC (.str "(a)")), (eC (.str "a+b")), (eC (.str "(a+b")), (eC (.str "a+b)")), (eC (.str "(a+b+c)")), (eC (.str "(a b)")), (eC (.str " a")), (eC (.str "(+a)"))] = E1 at e1l
  generalize eLst [(eC (.str "(a*)")), (eC (.str "ab")), (eC (.str "((a+b))")), (eC (.str "10"))] = E2 at e2l
  generalize odd1.map PyData.str = O1 at hadd ha e1l e2l
  generalize odd2.map PyData.str = O2 at hadd e2l
  generalize (odd1 ++ odd2).map PyData.str = O3 at hadd hi
  simp [runB, sSeq, sSet, e1l, bindS, ha, sRet, eIx, e2, eAdd, eVar, e2l, bindE, hadd, eMod, eC, hm, hi, lf]
/-! ### the law -/
theorem in_ints (m : Int) (ns : List Int) : dIn (.int m) (.tuple (ns.map .int)) = some (.bool (ns.any fun n => n == m)) := by
  have ha : PyData.canLayAll0 (ns.map .int) = true ∧ PyData.depthAll (ns.map .int) = 0 := by
    induction ns with
    | nil => exact ⟨rfl, rfl⟩
    | cons k ks ih =>
      simp only [List.map_cons, PyData.canLayAll0, PyData.canLay0, PyData.depthAll, PyData.depth, ih.1, ih.2]
      exact ⟨rfl, rfl⟩
  have ho : inOk (.int m) (ns.map .int) = true := by
    simp [inOk, PyData.canLay0, ha.1, ha.2]
  have he : (ns.map PyData.int).any (fun y => PyData.eqv y (.int m)) = ns.any fun n => n == m := by
    rw [List.any_map]
    congr 1
  simp only [dIn, dInB, ho, if_true, he, Option.map_some]
abbrev st5 (ns : List Int) (z : Str) (m : Int) : Rho := [some (.par (.list (ns.map .int))), some (.loc (.str z)), some (.loc (.int m)), none, none]
theorem if_step {c : FE} {A : FS} {T : FS} {ρ ρ' : Rho} {l : Nat} {b : Bool} (hc : c ρ = some (.ok l (.bool b))) (hA : A ρ = some (.next ρ')) : sSeq (sIf c A sNext) T ρ = T (if b then ρ' else ρ) := by
  cases b <;> simp [sSeq, sIf, hc, bindS, hA, sNext]
def tail16 (n : Nat) : FS := (sSeq (sSet 3 (eCall (m_law_due n) [(eVar 1)])) (sSeq (sSet 4 (eCall (m_law_told n) [(eVar 1)])) (sSeq (sIf (eIsN (eVar 3) (eC .none)) (sRet (eEq (eVar 4) (eLst [(eC (.bool true)), (eC (.bool true)), (eC (.bool false))]))) sNext) (sRet (eAnd (eIs .tuple (eVar 4)) (eCall (m_law_same n) [(eVar 4), (eVar 3)]))))))
theorem same_enc (n : Nat) (k : Kd) (hk : k.leaves ≤ 60) : m_law_same (n + 3) [enc k, enc k] = some (.ok (.bool true)) := by
  have := enc_wsz k
  have := enc_depth k
  exact same_ok n (enc k) (enc_plain k) (by omega) (by omega)
theorem isT_enc (k : Kd) : dIs .tuple (enc k) = some (.bool true) := by cases k <;> rfl
theorem tail_ok (ns : List Int) (z : Str) (m : Int) (h : good z 68) : tail16 71 (st5 ns z m) = some (.ret (.bool true)) := by
  have ed := due_ok 71 z (good_up h (by decide)) (by have := h.1; omega)
  have et := told_ok 67 z (good_up h (by decide))
  cases hr : readR (cps z) with
  | none =>
    rw [hr] at ed et
    have q : dEq (.list [.bool true, .bool true, .bool false]) (.list [.bool true, .bool true, .bool false]) = some (.bool true) := by kernel_rfl
    have ha : asg 2 (.list [.bool true, .bool true, .bool false]) = some (.own [.bool true, .bool true, .bool false]) := rfl
    have hn : dIsN .none .none = some (.bool true) := rfl
    have a0 : asg 2 .none = some (.loc .none) := rfl
    simp only [optK, toldD] at ed et
    simp [tail16, st5, sSeq, sSet, eCall, eArgs, eVar, bindI, bindS, ed, et, ofRC, a0, ha, sIf, eIsN, e2, eC, bindE, hn, sRet, eEq, eLst, lfs, lf, q]
  | some k =>
    rw [hr] at ed et
    obtain ⟨ok, hc⟩ := read_is hr
    have hlen := text_leaves k
    have hl2 : (textK k).length = (cps z).length := by rw [len_cps, hc]; rfl
    have es := same_enc 68 k (by have := h.1; omega)
    have it := isT_enc k
    have lk := enc_lf k
    have hn : dIsN (enc k) .none = some (.bool false) := isN_opt (some k)
    simp only [optK, toldD] at ed et
    generalize enc k = D at ed et es it lk hn
    simp [tail16, st5, sSeq, sSet, eCall, eArgs, eVar, bindI, bindS, ed, et, ofRC, asg_lf lk, sIf, eIsN, e2, eC, bindE, hn, sNext, sRet, eAnd, eIs, e1, it, es, lf]
theorem law_true (ns : List Int) (_ : ns.length ≤ 63) : m_law 72 [.list (ns.map .int)] = some (.ok (.bool true)) := by
  have e : m_law 72 = runB 5 (sSeq (sSet 1 (eCall (m_law_text 71) [(eCall (m_law_kind 71) [(eCall (m_law_cell 71) [(eVar 0), (eC (.int 0))]), (eAdd (eC (.int 1)) (eMod (eCall (m_law_cell 71) [(eVar 0), (eC (.int 1))]) (eC (.int 8)))), (eC (.int 1))])])) (sSeq (sSet 2 (eMod (eDiv (eCall (m_law_cell 71) [(eVar 0), (eC (.int 1))]) (eC (.int 8))) (eC (.int 8)))) (sSeq (sIf (eIn (eVar 2) (eTup [(eC (.int 1)), (eC (.int 2)), (eC (.int 3)), (eC (.int 4))])) (sSet 1 (eCall (m_law_changed 71) [(eVar 1), (eCall (m_law_cell 71) [(eVar 0), (eC (.int 2))])])) sNext) (sSeq (sIf (eIn (eVar 2) (eTup [(eC (.int 3)), (eC (.int 4))])) (sSet 1 (eCall (m_law_changed 71) [(eVar 1), (eCall (m_law_cell 71) [(eVar 0), (eC (.int 3))])])) sNext) (sSeq (sIf (eEq (eVar 2) (eC (.int 5))) (sSet 1 (eAdd (eAdd (eC (.str "(")) (eVar 1)) (eC (.str ")")))) sNext) (sSeq (sIf (eEq (eVar 2) (eC (.int 6))) (sSet 1 (eAdd (eAdd (eVar 1) (eIx (eLst [(eC (.str "")), (eC (.str "+")), (eC (.str "*"))]) (eMod (eCall (m_law_cell 71) [(eVar 0), (eC (.int 2))]) (eC (.int 3))))) (eVar 1))) sNext) (sSeq (sIf (eEq (eMod (eDiv (eCall (m_law_cell 71) [(eVar 0), (eC (.int 1))]) (eC (.int 64))) (eC (.int 9))) (eC (.int 1))) (sSet 1 (eCall (m_law_odd 71) [(eCall (m_law_cell 71) [(eVar 0), (eC (.int 2))])])) sNext) (tail16 71)))))))) := rfl
  rw [e]
  have c0 := cell_ok 69 ns 0
  have c1 := cell_ok 69 ns 1
  have c2 := cell_ok 69 ns 2
  have c3 := cell_ok 69 ns 3
  simp only [Nat.reduceAdd, Int.cast_ofNat_Int] at c0 c1 c2 c3
  generalize cellV ns 0 = v0 at c0
  generalize cellV ns 1 = v1 at c1
  generalize cellV ns 2 = v2 at c2
  generalize cellV ns 3 = v3 at c3
  have m8 : 0 ≤ v1 % 8 ∧ v1 % 8 < 8 := by omega
  obtain ⟨k, ek, ok, lk⟩ := kind_ok 8 70 v0 (1 + v1 % 8) 1 (by omega) (by omega)
  have hl8 : k.leaves ≤ 8 := by omega
  have et := text_ok k 71 (by omega) (by omega) ok
  have gz : good (textK k) 29 := ⟨by have := text_len k; rw [← len_cps]; omega, text_asc k ok⟩
  simp only [Nat.reduceAdd] at ek
  have hm8 : dMod (.int v1) (.int 8) = some (.int (v1 % 8)) := mod_ok (by decide)
  have hd8 : dDiv (.int v1) (.int 8) = some (.int (v1 / 8)) := div_ok (by decide) (by decide)
  have hmm : dMod (.int (v1 / 8)) (.int 8) = some (.int (v1 / 8 % 8)) := mod_ok (by decide)
  have hd64 : dDiv (.int v1) (.int 64) = some (.int (v1 / 64)) := div_ok (by decide) (by decide)
  have hm9 : dMod (.int (v1 / 64)) (.int 9) = some (.int (v1 / 64 % 9)) := mod_ok (by decide)
  have hm3 : dMod (.int v2) (.int 3) = some (.int (v2 % 3)) := mod_ok (by decide)
  have q0 := Int.emod_nonneg v2 (b := 3) (by decide)
  have q1 := Int.emod_lt_of_pos v2 (b := 3) (by decide)
  generalize v1 / 64 % 9 = k9 at hm9
  generalize v1 / 64 = k64 at hd64 hm9
  generalize v1 / 8 % 8 = m at hmm
  generalize v1 / 8 = k8 at hd8 hmm
  generalize v1 % 8 = r8 at hm8 ek
  generalize v2 % 3 = r3 at hm3 q0 q1
  generalize textK k = z0 at et gz
  have lfk := enc_lf k
  generalize enc k = D at ek et lfk
  refine run_ret ?_
  show sSeq _ _ [some (.par (.list (ns.map .int))), none, none, none, none] = _
  refine (seq_next (ρ' := [some (.par (.list (ns.map .int))), some (.loc (.str z0)), none, none, none]) ?_).trans ?_
  · simp [sSet, eCall, eArgs, eVar, eC, bindI, bindE, bindS, c0, c1, ofRC, eAdd, e2, addII, eMod, hm8, ek, et, asg_str]
  refine (seq_next (ρ' := st5 ns z0 m) ?_).trans ?_
  · simp [st5, sSet, eMod, eDiv, e2, eCall, eArgs, eVar, eC, bindI, bindE, bindS, c1, ofRC, hd8, hmm, asg_int]
  -- changed once
  have i1 : dIn (.int m) (.tuple [.int 1, .int 2, .int 3, .int 4]) = some (.bool ([1, 2, 3, 4].any fun n => n == m)) := in_ints m [1, 2, 3, 4]
  have i2 : dIn (.int m) (.tuple [.int 3, .int 4]) = some (.bool ([3, 4].any fun n => n == m)) := in_ints m [3, 4]
  generalize ([1, 2, 3, 4].any fun n => n == m) = b1 at i1
  generalize ([3, 4].any fun n => n == m) = b2 at i2
  obtain ⟨w1, e1', g1⟩ := changed_ok 70 z0 v2 29 gz (by decide)
  simp only [Nat.reduceAdd] at e1'
  refine (if_step (ρ' := st5 ns w1 m) (l := 2) (b := b1) ?_ ?_).trans ?_
  · simp [st5, eIn, e2, eVar, eTup, eArgs, eC, bindI, bindE, i1]
  · simp [st5, sSet, eCall, eArgs, eVar, eC, bindI, bindE, bindS, c2, ofRC, e1', asg_str]
  obtain ⟨z1, hz1, gz1⟩ : ∃ z1, (if b1 = true then st5 ns w1 m else st5 ns z0 m) = st5 ns z1 m ∧ good z1 30 := by
    cases b1
    · exact ⟨z0, rfl, good_up gz (by decide)⟩
    · exact ⟨w1, rfl, g1⟩
  rw [hz1]
  -- changed twice
  obtain ⟨w2, e2', g2⟩ := changed_ok 70 z1 v3 30 gz1 (by decide)
  simp only [Nat.reduceAdd] at e2'
  refine (if_step (ρ' := st5 ns w2 m) (l := 2) (b := b2) ?_ ?_).trans ?_
  · simp [st5, eIn, e2, eVar, eTup, eArgs, eC, bindI, bindE, i2]
  · simp [st5, sSet, eCall, eArgs, eVar, eC, bindI, bindE, bindS, c3, ofRC, e2', asg_str]
  obtain ⟨z2, hz2, gz2⟩ : ∃ z2, (if b2 = true then st5 ns w2 m else st5 ns z1 m) = st5 ns z2 m ∧ good z2 31 := by
    cases b2
    · exact ⟨z1, rfl, good_up gz1 (by decide)⟩
    · exact ⟨w2, rfl, g2⟩
  rw [hz2]
  -- in brackets
  have go : good "(" 1 := by rw [s_op]; exact good_ch (by decide)
  have gcl : good ")" 1 := by rw [s_cl]; exact good_ch (by decide)
  have a1 := add_good go gz2 (by decide)
  have a2 := add_good (good_app go gz2) gcl (by decide)
  have g3 := good_app (good_app go gz2) gcl
  generalize ("(" ++ z2) ++ ")" = w3 at a2 g3
  generalize "(" ++ z2 = u3 at a1 a2
  refine (if_step (ρ' := st5 ns w3 m) (l := 2) (b := m == 5) ?_ ?_).trans ?_
  · simp [st5, eEq, e2, eVar, eC, bindE, eqII]
  · simp [st5, sSet, eAdd, e2, eVar, eC, bindE, bindS, a1, a2, asg_str]
  obtain ⟨z3, hz3, gz3⟩ : ∃ z3, (if (m == 5) = true then st5 ns w3 m else st5 ns z2 m) = st5 ns z3 m ∧ good z3 33 := by
    cases (m == 5)
    · exact ⟨z2, rfl, good_up gz2 (by decide)⟩
    · exact ⟨w3, rfl, good_up g3 (by decide)⟩
  rw [hz3]
  -- twice in a row
  obtain ⟨sg, hsg, gsg⟩ : ∃ sg, dIx (.list [.str "", .str "+", .str "*"]) (.int r3) = some (.str sg) ∧ good sg 1 := by
    have : r3 = 0 ∨ r3 = 1 ∨ r3 = 2 := by omega
    rcases this with rfl | rfl | rfl
    · refine ⟨"", rfl, ?_⟩
      rw [show ("" : Str) = sZ [] by decide +kernel]
      exact ⟨by rw [cps_sZ]; decide, fun c hc => by rw [cps_sZ] at hc; cases hc⟩
    · exact ⟨"+", rfl, by rw [s_pl]; exact good_ch (by decide)⟩
    · exact ⟨"*", rfl, by rw [s_ti]; exact good_ch (by decide)⟩
  have a3 := add_good gz3 gsg (by decide)
  have a4 := add_good (good_app gz3 gsg) gz3 (by decide)
  have g4 := good_app (good_app gz3 gsg) gz3
  generalize (z3 ++ sg) ++ z3 = w4 at a4 g4
  generalize z3 ++ sg = u4 at a3 a4
  refine (if_step (ρ' := st5 ns w4 m) (l := 2) (b := m == 6) ?_ ?_).trans ?_
  · simp [st5, eEq, e2, eVar, eC, bindE, eqII]
  · simp [st5, sSet, eAdd, e2, eIx, eLst, eArgs, eMod, eCall, eVar, eC, bindI, bindE, bindS, lfs, lf, c2, ofRC, hm3, hsg, a3, a4, asg_str]
  obtain ⟨z4, hz4, gz4⟩ : ∃ z4, (if (m == 6) = true then st5 ns w4 m else st5 ns z3 m) = st5 ns z4 m ∧ good z4 67 := by
    cases (m == 6)
    · exact ⟨z3, rfl, good_up gz3 (by decide)⟩
    · exact ⟨w4, rfl, good_up g4 (by decide)⟩
  rw [hz4]
  -- an odd one
  obtain ⟨w5, e5, g5⟩ := odd_ok 70 v2
  simp only [Nat.reduceAdd] at e5
  refine (if_step (ρ' := st5 ns w5 m) (l := 2) (b := k9 == 1) ?_ ?_).trans ?_
  · simp [st5, eEq, eMod, eDiv, e2, eCall, eArgs, eVar, eC, bindI, bindE, c1, ofRC, hd64, hm9, eqII]
  · simp [st5, sSet, eCall, eArgs, eVar, eC, bindI, bindE, bindS, c2, ofRC, e5, asg_str]
  obtain ⟨z5, hz5, gz5⟩ : ∃ z5, (if (k9 == 1) = true then st5 ns w5 m else st5 ns z4 m) = st5 ns z5 m ∧ good z5 68 := by
    cases (k9 == 1)
    · exact ⟨z4, rfl, good_up gz4 (by decide)⟩
    · exact ⟨w5, rfl, good_up g5 (by decide)⟩
  rw [hz5]
  exact tail_ok ns z5 m gz5
end KT
set_option Elab.async false
set_option linter.all false
set_option maxRecDepth 100000
namespace KT
open PySem PySem.Spec PyProof.Rows L2
structure TxtF (K : PySem.W.Frag) (mg : Str → Option Value) : Prop where
  t_law_whole : FunT K mg "_law_whole" st_law_whole ["found"]
  t_law_whole_thing : FunT K mg "_law_whole_thing" st_law_whole_thing ["found"]
  t_law_same : FunT K mg "_law_same" st_law_same ["found", "due"]
  t_is_bracket : FunT K mg "is_bracket" st_is_bracket ["signs"]
  t_close_bracket : FunT K mg "close_bracket" st_close_bracket ["line"]
  t_read : FunT K mg "read" st_read ["text"]
  t_law_told : FunT K mg "_law_told" st_law_told ["text"]
  t_law_due : FunT K mg "_law_due" st_law_due ["text"]
  t_law_stir : FunT K mg "_law_stir" st_law_stir ["cell"]
  t_law_cell : FunT K mg "_law_cell" st_law_cell ["script", "k"]
  t_law_odd : FunT K mg "_law_odd" st_law_odd ["cell"]
  t_law_changed : FunT K mg "_law_changed" st_law_changed ["text", "cell"]
  t_law_text : FunT K mg "_law_text" st_law_text ["kind"]
  t_law_draw : FunT K mg "_law_draw" st_law_draw ["cell", "k", "bound"]
  t_law_kind : FunT K mg "_law_kind" st_law_kind ["cell", "leaves", "k"]
  t_law : FunT K mg "law" st_law ["script"]
structure ClsF (K : PySem.W.Frag) (mg : Str → Option Value) (cv : Nat → Value) (pp : Params) : Prop where
  nought : True
  R_NotRead : ExcF K mg cv "NotRead" 1
  I_NotRead : IsF K mg cv "NotRead" sub_NotRead
  I_ValueError : IsF K mg cv "ValueError" sub_ValueError
  I_NoThing : IsF K mg cv "NoThing" sub_NoThing
  H_KindError : HanF K mg cv "KindError" sub_KindError
  KD_WORDS : KDct K pp mg "WORDS" [("+", .str "either"), ("*", .str "both")]
  KD_LEAVES : KDct K pp mg "LEAVES" [("0", .tuple [.str "none"]), ("1", .tuple [.str "one"]), ("a", .tuple [.str "name", .int 0]), ("b", .tuple [.str "name", .int 1]), ("c", .tuple [.str "name", .int 2]), ("d", .tuple [.str "name", .int 3])]
structure AllF (P : Program) (w : World) (K : PySem.W.Frag) (mg : Str → Option Value) (base : Heap) (cv : Nat → Value) (n : Nat) : Prop where
  f_law_whole : FnF (CX1 P w) P w K mg base cv n "_law_whole" 1 (m_law_whole n)
  f_law_whole_thing : FnF (CX1 P w) P w K mg base cv n "_law_whole_thing" 1 (m_law_whole_thing n)
  f_law_same : FnF (CX1 P w) P w K mg base cv n "_law_same" 2 (m_law_same n)
  f_is_bracket : FnF (CX1 P w) P w K mg base cv n "is_bracket" 1 (m_is_bracket n)
  f_close_bracket : FnL (CX1 P w) P w K mg base cv n "close_bracket" (m_close_bracket n)
  f_read : FnF (CX1 P w) P w K mg base cv n "read" 1 (m_read n)
  f_law_told : FnF (CX1 P w) P w K mg base cv n "_law_told" 1 (m_law_told n)
  f_law_due : FnF (CX1 P w) P w K mg base cv n "_law_due" 1 (m_law_due n)
  f_law_stir : FnF (CX1 P w) P w K mg base cv n "_law_stir" 1 (m_law_stir n)
  f_law_cell : FnF (CX1 P w) P w K mg base cv n "_law_cell" 2 (m_law_cell n)
  f_law_odd : FnF (CX1 P w) P w K mg base cv n "_law_odd" 1 (m_law_odd n)
  f_law_changed : FnF (CX1 P w) P w K mg base cv n "_law_changed" 2 (m_law_changed n)
  f_law_text : FnF (CX1 P w) P w K mg base cv n "_law_text" 1 (m_law_text n)
  f_law_draw : FnF (CX1 P w) P w K mg base cv n "_law_draw" 3 (m_law_draw n)
  f_law_kind : FnF (CX1 P w) P w K mg base cv n "_law_kind" 3 (m_law_kind n)
  f_law : FnF (CX1 P w) P w K mg base cv n "law" 1 (m_law n)
section
variable {P : Program} {w : World} {K : PySem.W.Frag} {mg : Str → Option Value} {base : Heap} {cv : Nat → Value}
theorem all_0 (T : TxtF K mg) : AllF P w K mg base cv 0 := ⟨fnF0 T.t_law_whole, fnF0 T.t_law_whole_thing, fnF0 T.t_law_same, fnF0 T.t_is_bracket, fnL0 T.t_close_bracket, fnF0 T.t_read, fnF0 T.t_law_told, fnF0 T.t_law_due, fnF0 T.t_law_stir, fnF0 T.t_law_cell, fnF0 T.t_law_odd, fnF0 T.t_law_changed, fnF0 T.t_law_text, fnF0 T.t_law_draw, fnF0 T.t_law_kind, fnF0 T.t_law⟩
theorem all_S {n : Nat} (M : MF mg) (T : TxtF K mg) (C : ClsF K mg cv w.params) (A : AllF P w K mg base cv n) : AllF P w K mg base cv (n + 1) :=
  ⟨fnFS T.t_law_whole fun f fd F => ok_law_whole M F,
  fnFS T.t_law_whole_thing fun f fd F => ok_law_whole_thing M F A.f_law_whole,
  fnFS T.t_law_same fun f fd F => ok_law_same M F A.f_law_whole_thing,
  fnFS T.t_is_bracket fun f fd F => ok_is_bracket M F,
  fnLS T.t_close_bracket fun f fd F => ok_close_bracket M F A.f_is_bracket C.R_NotRead C.KD_WORDS,
  fnFS T.t_read fun f fd F => ok_read M F A.f_close_bracket C.R_NotRead C.KD_LEAVES,
  fnFS T.t_law_told fun f fd F => ok_law_told M F A.f_read C.I_NotRead C.I_ValueError C.I_NoThing C.H_KindError,
  fnFS T.t_law_due fun f fd F => ok_law_due M F A.f_law_due,
  fnFS T.t_law_stir fun f fd F => ok_law_stir M F,
  fnFS T.t_law_cell fun f fd F => ok_law_cell M F A.f_law_stir,
  fnFS T.t_law_odd fun f fd F => ok_law_odd M F,
  fnFS T.t_law_changed fun f fd F => ok_law_changed M F,
  fnFS T.t_law_text fun f fd F => ok_law_text M F A.f_law_text,
  fnFS T.t_law_draw fun f fd F => ok_law_draw M F,
  fnFS T.t_law_kind fun f fd F => ok_law_kind M F A.f_law_kind A.f_law_draw,
  fnFS T.t_law fun f fd F => ok_law M F A.f_law_same A.f_law_told A.f_law_due A.f_law_cell A.f_law_odd A.f_law_changed A.f_law_text A.f_law_kind⟩
theorem all_n (M : MF mg) (T : TxtF K mg) (C : ClsF K mg cv w.params) : ∀ n, AllF P w K mg base cv n
  | 0 => all_0 T
  | n + 1 => all_S M T C (all_n M T C n)
theorem law_fn {f : Addr} {fd : FuncData} (M : MF mg) (T : TxtF K mg) (C : ClsF K mg cv w.params) (F : Fun K "law" "law" st_law f fd) : FnOk P w K mg base (CX1 P w) 72 f fd ["script"] (spD cv 1 (m_law 72)) :=
  have A := all_n (P := P) (w := w) (base := base) M T C 71
  ok_law M F A.f_law_same A.f_law_told A.f_law_due A.f_law_cell A.f_law_odd A.f_law_changed A.f_law_text A.f_law_kind
theorem far_KindError : ∀ c, sub_KindError (c + 6) = sub_KindError 0 := fun c => by simp [sub_KindError]
theorem far_NoThing : ∀ c, sub_NoThing (c + 6) = sub_NoThing 0 := fun c => by simp [sub_NoThing]
theorem far_NotRead : ∀ c, sub_NotRead (c + 6) = sub_NotRead 0 := fun c => by simp [sub_NotRead]
theorem far_ValueError : ∀ c, sub_ValueError (c + 6) = sub_ValueError 0 := fun c => by simp [sub_ValueError]
set_option maxHeartbeats 0 in
theorem fin_mk {h : Heap} (X : K.In h) (G : h.Ns mainGlobals mg)
    {f1 : Addr} {od1 an1 : Option Addr} {sl1 : Array (Option Value)} {oc1 kV1 dc1 pm1 cd1 ct1 : Value}
    (a1 : PySem.W.nsIn K mainGlobals "_law_whole" = some (some (.ref f1))) (l1 : K.lookup f1 = some ⟨oc1, od1, .func (PySem.W.fnOf "_law_whole" "_law_whole" (defArgs st_law_whole) (defBody st_law_whole) (defScope st_law_whole) .none kV1 dc1 pm1 an1 cd1 ct1), sl1⟩) (c1 : PySem.W.codeIn K cd1 "_law_whole" = true) (k1 : PySem.W.keepIn K (.ref f1) = true)
    {f2 : Addr} {od2 an2 : Option Addr} {sl2 : Array (Option Value)} {oc2 kV2 dc2 pm2 cd2 ct2 : Value}
    (a2 : PySem.W.nsIn K mainGlobals "_law_whole_thing" = some (some (.ref f2))) (l2 : K.lookup f2 = some ⟨oc2, od2, .func (PySem.W.fnOf "_law_whole_thing" "_law_whole_thing" (defArgs st_law_whole_thing) (defBody st_law_whole_thing) (defScope st_law_whole_thing) .none kV2 dc2 pm2 an2 cd2 ct2), sl2⟩) (c2 : PySem.W.codeIn K cd2 "_law_whole_thing" = true) (k2 : PySem.W.keepIn K (.ref f2) = true)
    {f3 : Addr} {od3 an3 : Option Addr} {sl3 : Array (Option Value)} {oc3 kV3 dc3 pm3 cd3 ct3 : Value}
    (a3 : PySem.W.nsIn K mainGlobals "_law_same" = some (some (.ref f3))) (l3 : K.lookup f3 = some ⟨oc3, od3, .func (PySem.W.fnOf "_law_same" "_law_same" (defArgs st_law_same) (defBody st_law_same) (defScope st_law_same) .none kV3 dc3 pm3 an3 cd3 ct3), sl3⟩) (c3 : PySem.W.codeIn K cd3 "_law_same" = true) (k3 : PySem.W.keepIn K (.ref f3) = true)
    {f4 : Addr} {od4 an4 : Option Addr} {sl4 : Array (Option Value)} {oc4 kV4 dc4 pm4 cd4 ct4 : Value}
    (a4 : PySem.W.nsIn K mainGlobals "is_bracket" = some (some (.ref f4))) (l4 : K.lookup f4 = some ⟨oc4, od4, .func (PySem.W.fnOf "is_bracket" "is_bracket" (defArgs st_is_bracket) (defBody st_is_bracket) (defScope st_is_bracket) .none kV4 dc4 pm4 an4 cd4 ct4), sl4⟩) (c4 : PySem.W.codeIn K cd4 "is_bracket" = true) (k4 : PySem.W.keepIn K (.ref f4) = true)
    {f5 : Addr} {od5 an5 : Option Addr} {sl5 : Array (Option Value)} {oc5 kV5 dc5 pm5 cd5 ct5 : Value}
    (a5 : PySem.W.nsIn K mainGlobals "close_bracket" = some (some (.ref f5))) (l5 : K.lookup f5 = some ⟨oc5, od5, .func (PySem.W.fnOf "close_bracket" "close_bracket" (defArgs st_close_bracket) (defBody st_close_bracket) (defScope st_close_bracket) .none kV5 dc5 pm5 an5 cd5 ct5), sl5⟩) (c5 : PySem.W.codeIn K cd5 "close_bracket" = true) (k5 : PySem.W.keepIn K (.ref f5) = true)
    {f6 : Addr} {od6 an6 : Option Addr} {sl6 : Array (Option Value)} {oc6 kV6 dc6 pm6 cd6 ct6 : Value}
    (a6 : PySem.W.nsIn K mainGlobals "read" = some (some (.ref f6))) (l6 : K.lookup f6 = some ⟨oc6, od6, .func (PySem.W.fnOf "read" "read" (defArgs st_read) (defBody st_read) (defScope st_read) .none kV6 dc6 pm6 an6 cd6 ct6), sl6⟩) (c6 : PySem.W.codeIn K cd6 "read" = true) (k6 : PySem.W.keepIn K (.ref f6) = true)
    {f7 : Addr} {od7 an7 : Option Addr} {sl7 : Array (Option Value)} {oc7 kV7 dc7 pm7 cd7 ct7 : Value}
    (a7 : PySem.W.nsIn K mainGlobals "_law_told" = some (some (.ref f7))) (l7 : K.lookup f7 = some ⟨oc7, od7, .func (PySem.W.fnOf "_law_told" "_law_told" (defArgs st_law_told) (defBody st_law_told) (defScope st_law_told) .none kV7 dc7 pm7 an7 cd7 ct7), sl7⟩) (c7 : PySem.W.codeIn K cd7 "_law_told" = true) (k7 : PySem.W.keepIn K (.ref f7) = true)
    {f8 : Addr} {od8 an8 : Option Addr} {sl8 : Array (Option Value)} {oc8 kV8 dc8 pm8 cd8 ct8 : Value}
    (a8 : PySem.W.nsIn K mainGlobals "_law_due" = some (some (.ref f8))) (l8 : K.lookup f8 = some ⟨oc8, od8, .func (PySem.W.fnOf "_law_due" "_law_due" (defArgs st_law_due) (defBody st_law_due) (defScope st_law_due) .none kV8 dc8 pm8 an8 cd8 ct8), sl8⟩) (c8 : PySem.W.codeIn K cd8 "_law_due" = true) (k8 : PySem.W.keepIn K (.ref f8) = true)
    {f9 : Addr} {od9 an9 : Option Addr} {sl9 : Array (Option Value)} {oc9 kV9 dc9 pm9 cd9 ct9 : Value}
    (a9 : PySem.W.nsIn K mainGlobals "_law_stir" = some (some (.ref f9))) (l9 : K.lookup f9 = some ⟨oc9, od9, .func (PySem.W.fnOf "_law_stir" "_law_stir" (defArgs st_law_stir) (defBody st_law_stir) (defScope st_law_stir) .none kV9 dc9 pm9 an9 cd9 ct9), sl9⟩) (c9 : PySem.W.codeIn K cd9 "_law_stir" = true) (k9 : PySem.W.keepIn K (.ref f9) = true)
    {f10 : Addr} {od10 an10 : Option Addr} {sl10 : Array (Option Value)} {oc10 kV10 dc10 pm10 cd10 ct10 : Value}
    (a10 : PySem.W.nsIn K mainGlobals "_law_cell" = some (some (.ref f10))) (l10 : K.lookup f10 = some ⟨oc10, od10, .func (PySem.W.fnOf "_law_cell" "_law_cell" (defArgs st_law_cell) (defBody st_law_cell) (defScope st_law_cell) .none kV10 dc10 pm10 an10 cd10 ct10), sl10⟩) (c10 : PySem.W.codeIn K cd10 "_law_cell" = true) (k10 : PySem.W.keepIn K (.ref f10) = true)
    {f11 : Addr} {od11 an11 : Option Addr} {sl11 : Array (Option Value)} {oc11 kV11 dc11 pm11 cd11 ct11 : Value}
    (a11 : PySem.W.nsIn K mainGlobals "_law_odd" = some (some (.ref f11))) (l11 : K.lookup f11 = some ⟨oc11, od11, .func (PySem.W.fnOf "_law_odd" "_law_odd" (defArgs st_law_odd) (defBody st_law_odd) (defScope st_law_odd) .none kV11 dc11 pm11 an11 cd11 ct11), sl11⟩) (c11 : PySem.W.codeIn K cd11 "_law_odd" = true) (k11 : PySem.W.keepIn K (.ref f11) = true)
    {f12 : Addr} {od12 an12 : Option Addr} {sl12 : Array (Option Value)} {oc12 kV12 dc12 pm12 cd12 ct12 : Value}
    (a12 : PySem.W.nsIn K mainGlobals "_law_changed" = some (some (.ref f12))) (l12 : K.lookup f12 = some ⟨oc12, od12, .func (PySem.W.fnOf "_law_changed" "_law_changed" (defArgs st_law_changed) (defBody st_law_changed) (defScope st_law_changed) .none kV12 dc12 pm12 an12 cd12 ct12), sl12⟩) (c12 : PySem.W.codeIn K cd12 "_law_changed" = true) (k12 : PySem.W.keepIn K (.ref f12) = true)
    {f13 : Addr} {od13 an13 : Option Addr} {sl13 : Array (Option Value)} {oc13 kV13 dc13 pm13 cd13 ct13 : Value}
    (a13 : PySem.W.nsIn K mainGlobals "_law_text" = some (some (.ref f13))) (l13 : K.lookup f13 = some ⟨oc13, od13, .func (PySem.W.fnOf "_law_text" "_law_text" (defArgs st_law_text) (defBody st_law_text) (defScope st_law_text) .none kV13 dc13 pm13 an13 cd13 ct13), sl13⟩) (c13 : PySem.W.codeIn K cd13 "_law_text" = true) (k13 : PySem.W.keepIn K (.ref f13) = true)
    {f14 : Addr} {od14 an14 : Option Addr} {sl14 : Array (Option Value)} {oc14 kV14 dc14 pm14 cd14 ct14 : Value}
    (a14 : PySem.W.nsIn K mainGlobals "_law_draw" = some (some (.ref f14))) (l14 : K.lookup f14 = some ⟨oc14, od14, .func (PySem.W.fnOf "_law_draw" "_law_draw" (defArgs st_law_draw) (defBody st_law_draw) (defScope st_law_draw) .none kV14 dc14 pm14 an14 cd14 ct14), sl14⟩) (c14 : PySem.W.codeIn K cd14 "_law_draw" = true) (k14 : PySem.W.keepIn K (.ref f14) = true)
    {f15 : Addr} {od15 an15 : Option Addr} {sl15 : Array (Option Value)} {oc15 kV15 dc15 pm15 cd15 ct15 : Value}
    (a15 : PySem.W.nsIn K mainGlobals "_law_kind" = some (some (.ref f15))) (l15 : K.lookup f15 = some ⟨oc15, od15, .func (PySem.W.fnOf "_law_kind" "_law_kind" (defArgs st_law_kind) (defBody st_law_kind) (defScope st_law_kind) .none kV15 dc15 pm15 an15 cd15 ct15), sl15⟩) (c15 : PySem.W.codeIn K cd15 "_law_kind" = true) (k15 : PySem.W.keepIn K (.ref f15) = true)
    {f16 : Addr} {od16 an16 : Option Addr} {sl16 : Array (Option Value)} {oc16 kV16 dc16 pm16 cd16 ct16 : Value}
    (a16 : PySem.W.nsIn K mainGlobals "law" = some (some (.ref f16))) (l16 : K.lookup f16 = some ⟨oc16, od16, .func (PySem.W.fnOf "law" "law" (defArgs st_law) (defBody st_law) (defScope st_law) .none kV16 dc16 pm16 an16 cd16 ct16), sl16⟩) (c16 : PySem.W.codeIn K cd16 "law" = true) (k16 : PySem.W.keepIn K (.ref f16) = true)
    (zM : (["len", "int", "bool", "str", "tuple", "list", "isinstance", "range", "enumerate", "zip", "reversed"] : List Str).all (fun x => PySem.W.nsIn K mainGlobals x == some none) = true) (zRNotRead : excB K "NotRead" = true) (zX : xallB K = true) (zINotRead : isoB K "NotRead" sub_NotRead = true) (zV : PySem.W.nsIn K mainGlobals "ValueError" = some none) (zIValueError : isvB K sub_ValueError = true) (zINoThing : isoB K "NoThing" sub_NoThing = true) (zHKindError : hanB K "KindError" sub_KindError = true) {aWORDS : Addr} {epWORDS : Nat} {tWORDS0 : Tok} {uWORDS0 : Value} {tWORDS1 : Tok} {uWORDS1 : Value} (zDnWORDS : PySem.W.nsIn K mainGlobals "WORDS" = some (some (.ref aWORDS))) (zDlWORDS : K.lookup aWORDS = some ⟨.type "dict", none, .dict #[⟨PyData.keyHash w.params "+", .str "+" tWORDS0, uWORDS0⟩, ⟨PyData.keyHash w.params "*", .str "*" tWORDS1, uWORDS1⟩] epWORDS, #[]⟩) (zDsWORDS : (aWORDS == sysModules) = false) (zDvWORDS0 : kvB K (.str "either") uWORDS0 = true) (zDvWORDS1 : kvB K (.str "both") uWORDS1 = true) {aLEAVES : Addr} {epLEAVES : Nat} {tLEAVES0 : Tok} {uLEAVES0 : Value} {tLEAVES1 : Tok} {uLEAVES1 : Value} {tLEAVES2 : Tok} {uLEAVES2 : Value} {tLEAVES3 : Tok} {uLEAVES3 : Value} {tLEAVES4 : Tok} {uLEAVES4 : Value} {tLEAVES5 : Tok} {uLEAVES5 : Value} (zDnLEAVES : PySem.W.nsIn K mainGlobals "LEAVES" = some (some (.ref aLEAVES))) (zDlLEAVES : K.lookup aLEAVES = some ⟨.type "dict", none, .dict #[⟨PyData.keyHash w.params "0", .str "0" tLEAVES0, uLEAVES0⟩, ⟨PyData.keyHash w.params "1", .str "1" tLEAVES1, uLEAVES1⟩, ⟨PyData.keyHash w.params "a", .str "a" tLEAVES2, uLEAVES2⟩, ⟨PyData.keyHash w.params "b", .str "b" tLEAVES3, uLEAVES3⟩, ⟨PyData.keyHash w.params "c", .str "c" tLEAVES4, uLEAVES4⟩, ⟨PyData.keyHash w.params "d", .str "d" tLEAVES5, uLEAVES5⟩] epLEAVES, #[]⟩) (zDsLEAVES : (aLEAVES == sysModules) = false) (zDvLEAVES0 : kvB K (.tuple [.str "none"]) uLEAVES0 = true) (zDvLEAVES1 : kvB K (.tuple [.str "one"]) uLEAVES1 = true) (zDvLEAVES2 : kvB K (.tuple [.str "name", .int 0]) uLEAVES2 = true) (zDvLEAVES3 : kvB K (.tuple [.str "name", .int 1]) uLEAVES3 = true) (zDvLEAVES4 : kvB K (.tuple [.str "name", .int 2]) uLEAVES4 = true) (zDvLEAVES5 : kvB K (.tuple [.str "name", .int 3]) uLEAVES5 = true) :
    FunT K mg "law" st_law ["script"] ∧ ∀ f fd, Fun K "law" "law" st_law f fd → ∀ base : Heap, FnOk P w K mg base (CX1 P w) 72 f fd ["script"] (spD (cvOf K) 1 (m_law 72)) := by
  have t1 : FunT K mg "_law_whole" st_law_whole ["found"] := funT_mk X G a1 l1 c1 k1 fun _ _ _ _ _ _ us hl => by obtain ⟨a, rfl⟩ := len1 hl; rfl
  have t2 : FunT K mg "_law_whole_thing" st_law_whole_thing ["found"] := funT_mk X G a2 l2 c2 k2 fun _ _ _ _ _ _ us hl => by obtain ⟨a, rfl⟩ := len1 hl; rfl
  have t3 : FunT K mg "_law_same" st_law_same ["found", "due"] := funT_mk X G a3 l3 c3 k3 fun _ _ _ _ _ _ us hl => by obtain ⟨a, b, rfl⟩ := len2 hl; rfl
  have t4 : FunT K mg "is_bracket" st_is_bracket ["signs"] := funT_mk X G a4 l4 c4 k4 fun _ _ _ _ _ _ us hl => by obtain ⟨a, rfl⟩ := len1 hl; rfl
  have t5 : FunT K mg "close_bracket" st_close_bracket ["line"] := funT_mk X G a5 l5 c5 k5 fun _ _ _ _ _ _ us hl => by obtain ⟨a, rfl⟩ := len1 hl; rfl
  have t6 : FunT K mg "read" st_read ["text"] := funT_mk X G a6 l6 c6 k6 fun _ _ _ _ _ _ us hl => by obtain ⟨a, rfl⟩ := len1 hl; rfl
  have t7 : FunT K mg "_law_told" st_law_told ["text"] := funT_mk X G a7 l7 c7 k7 fun _ _ _ _ _ _ us hl => by obtain ⟨a, rfl⟩ := len1 hl; rfl
  have t8 : FunT K mg "_law_due" st_law_due ["text"] := funT_mk X G a8 l8 c8 k8 fun _ _ _ _ _ _ us hl => by obtain ⟨a, rfl⟩ := len1 hl; rfl
  have t9 : FunT K mg "_law_stir" st_law_stir ["cell"] := funT_mk X G a9 l9 c9 k9 fun _ _ _ _ _ _ us hl => by obtain ⟨a, rfl⟩ := len1 hl; rfl
  have t10 : FunT K mg "_law_cell" st_law_cell ["script", "k"] := funT_mk X G a10 l10 c10 k10 fun _ _ _ _ _ _ us hl => by obtain ⟨a, b, rfl⟩ := len2 hl; rfl
  have t11 : FunT K mg "_law_odd" st_law_odd ["cell"] := funT_mk X G a11 l11 c11 k11 fun _ _ _ _ _ _ us hl => by obtain ⟨a, rfl⟩ := len1 hl; rfl
  have t12 : FunT K mg "_law_changed" st_law_changed ["text", "cell"] := funT_mk X G a12 l12 c12 k12 fun _ _ _ _ _ _ us hl => by obtain ⟨a, b, rfl⟩ := len2 hl; rfl
  have t13 : FunT K mg "_law_text" st_law_text ["kind"] := funT_mk X G a13 l13 c13 k13 fun _ _ _ _ _ _ us hl => by obtain ⟨a, rfl⟩ := len1 hl; rfl
  have t14 : FunT K mg "_law_draw" st_law_draw ["cell", "k", "bound"] := funT_mk X G a14 l14 c14 k14 fun _ _ _ _ _ _ us hl => by obtain ⟨a, b, c, rfl⟩ := len3 hl; rfl
  have t15 : FunT K mg "_law_kind" st_law_kind ["cell", "leaves", "k"] := funT_mk X G a15 l15 c15 k15 fun _ _ _ _ _ _ us hl => by obtain ⟨a, b, c, rfl⟩ := len3 hl; rfl
  have t16 : FunT K mg "law" st_law ["script"] := funT_mk X G a16 l16 c16 k16 fun _ _ _ _ _ _ us hl => by obtain ⟨a, rfl⟩ := len1 hl; rfl
  have M : MF mg := mF_of X G zM
  have C : ClsF K mg (cvOf K) w.params := ⟨trivial, excF_own (x := "NotRead") (c := 1) X G rfl zRNotRead, isF_own (x := "NotRead") X G far_NotRead zX zINotRead, isF_val X G far_ValueError zX zV zIValueError, isF_own (x := "NoThing") X G far_NoThing zX zINoThing, hanF_own (x := "KindError") X G far_KindError zHKindError, kdct_mk X G zDnWORDS zDlWORDS zDsWORDS (ke_cons zDvWORDS0 (ke_cons zDvWORDS1 KEnt.nil)) (by decide +kernel), kdct_mk X G zDnLEAVES zDlLEAVES zDsLEAVES (ke_cons zDvLEAVES0 (ke_cons zDvLEAVES1 (ke_cons zDvLEAVES2 (ke_cons zDvLEAVES3 (ke_cons zDvLEAVES4 (ke_cons zDvLEAVES5 KEnt.nil)))))) (by decide +kernel)⟩
  exact ⟨t16, fun f fd F base => law_fn M ⟨t1, t2, t3, t4, t5, t6, t7, t8, t9, t10, t11, t12, t13, t14, t15, t16⟩ C F⟩
end
end KT
open PySem PySem.W PyProof.Rows
set_option maxRecDepth 100000 in
set_option maxHeartbeats 0 in
theorem PySem.Challenge.cw_kindturn_k16_read_holds : PySem.Challenge.rw_kindturn_k16_read.Holds := by
  w_on; o_law; k_head; (case hw => w_witness2)
  k_fill
  refine KT.walk (l := PySem.Challenge.rw_kindturn_k16_read) (g := KT.m_law 72) (N := 72) (st := KT.st_law) rfl rfl ⟨rfl, by decide, by decide⟩ (fun w h Y => PySem.W.kIn_of Y) rfl ?F ?L fun ns hns => KT.law_true ns hns
  case L => intro w; kernel_rfl
  case F =>
    intro w mg h KX G
    refine' KT.fin_mk KX G ?a1 ?l1 ?c1 ?k1 ?a2 ?l2 ?c2 ?k2 ?a3 ?l3 ?c3 ?k3 ?a4 ?l4 ?c4 ?k4 ?a5 ?l5 ?c5 ?k5 ?a6 ?l6 ?c6 ?k6 ?a7 ?l7 ?c7 ?k7 ?a8 ?l8 ?c8 ?k8 ?a9 ?l9 ?c9 ?k9 ?a10 ?l10 ?c10 ?k10 ?a11 ?l11 ?c11 ?k11 ?a12 ?l12 ?c12 ?k12 ?a13 ?l13 ?c13 ?k13 ?a14 ?l14 ?c14 ?k14 ?a15 ?l15 ?c15 ?k15 ?a16 ?l16 ?c16 ?k16 ?zM ?zRNotRead ?zX ?zINotRead ?zV ?zIValueError ?zINoThing ?zHKindError ?zDnWORDS ?zDlWORDS ?zDsWORDS ?zDvWORDS0 ?zDvWORDS1 ?zDnLEAVES ?zDlLEAVES ?zDsLEAVES ?zDvLEAVES0 ?zDvLEAVES1 ?zDvLEAVES2 ?zDvLEAVES3 ?zDvLEAVES4 ?zDvLEAVES5
    (case a1 => k_is); (case l1 => k_is); (case c1 => k_is); (case k1 => k_is)
    (case a2 => k_is); (case l2 => k_is); (case c2 => k_is); (case k2 => k_is)
    (case a3 => k_is); (case l3 => k_is); (case c3 => k_is); (case k3 => k_is)
    (case a4 => k_is); (case l4 => k_is); (case c4 => k_is); (case k4 => k_is)
    (case a5 => k_is); (case l5 => k_is); (case c5 => k_is); (case k5 => k_is)
    (case a6 => k_is); (case l6 => k_is); (case c6 => k_is); (case k6 => k_is)
    (case a7 => k_is); (case l7 => k_is); (case c7 => k_is); (case k7 => k_is)
    (case a8 => k_is); (case l8 => k_is); (case c8 => k_is); (case k8 => k_is)
    (case a9 => k_is); (case l9 => k_is); (case c9 => k_is); (case k9 => k_is)
    (case a10 => k_is); (case l10 => k_is); (case c10 => k_is); (case k10 => k_is)
    (case a11 => k_is); (case l11 => k_is); (case c11 => k_is); (case k11 => k_is)
    (case a12 => k_is); (case l12 => k_is); (case c12 => k_is); (case k12 => k_is)
    (case a13 => k_is); (case l13 => k_is); (case c13 => k_is); (case k13 => k_is)
    (case a14 => k_is); (case l14 => k_is); (case c14 => k_is); (case k14 => k_is)
    (case a15 => k_is); (case l15 => k_is); (case c15 => k_is); (case k15 => k_is)
    (case a16 => k_is); (case l16 => k_is); (case c16 => k_is); (case k16 => k_is)
    (case zM => kernel_rfl)
    (case zRNotRead => kernel_rfl)
    (case zX => kernel_rfl)
    (case zINotRead => kernel_rfl)
    (case zV => kernel_rfl)
    (case zIValueError => kernel_rfl)
    (case zINoThing => kernel_rfl)
    (case zHKindError => kernel_rfl)
    (case zDnWORDS => k_is)
    (case zDlWORDS => k_is)
    (case zDsWORDS => kernel_rfl)
    (case zDvWORDS0 => kernel_rfl)
    (case zDvWORDS1 => kernel_rfl)
    (case zDnLEAVES => k_is)
    (case zDlLEAVES => k_is)
    (case zDsLEAVES => kernel_rfl)
    (case zDvLEAVES0 => kernel_rfl)
    (case zDvLEAVES1 => kernel_rfl)
    (case zDvLEAVES2 => kernel_rfl)
    (case zDvLEAVES3 => kernel_rfl)
    (case zDvLEAVES4 => kernel_rfl)
    (case zDvLEAVES5 => kernel_rfl)


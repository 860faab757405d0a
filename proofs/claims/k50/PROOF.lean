import PyProof.Rows.All
import Wide.All
import OpenK.AllK
import Wide.FinOn
import HandS.ForMost
import KE.KeyNested
import HandS.TupLen
import HandS.Lambda
import HandS.Nested
import HandS.Conv
import KE.KLam
import KE.SortKeyHeap
import KE.SortData
import HandS.Walk
import HandS.IsInst
import HandS.Sort
import HandS.OwnEq
import HandS.Exc
import HandS.ExcInit
import HandS.ExcIs
import HandS.ExcField
import HandS.ExcValue
import HandS.SuiteRaise
import KE.KExcIs
import KE.KStateDown
import Lean
import HandS.Base
import HandS.Call
import HandS.Ends
import HandS.More
import HandS.Words
import HandS.WordsExc
import HandS.Defaults
import HandS.Head0
import HandS.Head1
import HandS.Head2
import HandS.HeadEnd
import HandS.HeadHook1
import HandS.HeadHook2
import HandS.HeadHook3
import HandS.HeadHook4
import HandS.HeadWalk
import PyProof.ReprRoads
import PyProof.ReprLen
import HandS.List
import HandS.ExcOwn
import PyProof.NeKinds
import PyProof.StrOps2
import HandS.EndTab
import HandS.DictTup
import HandS.Small
import PyProof.ExcBaseAll.ValueError
import KE.KDictWalk
import KE.KDictCopyH
import HandS.Wide
import HandS.Text
import HandS.Deep
import HandS.Style
import PySem.Challenge.RW_subjecttags_k50_whole_mailboxes
set_option Elab.async false
section
set_option Elab.async false
set_option linter.all false
set_option maxRecDepth 100000
/-! dicts whose keys are tuples of any depth (None, ints, texts, tuples): get, in, not in, put, made empty -/
namespace QD
open PySem PySem.Spec PyProof.Rows L2

mutual
inductive NV (H : Hp) : NestedKey → V → Prop
  | none : NV H .none .non
  | num (i : Int) : NV H (.num i) (.int i)
  | text (x : Str) : NV H (.text x) (.str x)
  | tup {a : Addr} {vs : List V} {ks : List NestedKey} : H a = some (.tup vs) → NVs H ks vs → NV H (.tup ks) (.ref a)
inductive NVs (H : Hp) : List NestedKey → List V → Prop
  | nil : NVs H [] []
  | cons {k : NestedKey} {v : V} {ks : List NestedKey} {vs : List V} : NV H k v → NVs H ks vs → NVs H (k :: ks) (v :: vs)
end
mutual
theorem NV.to {H H' : Hp} (t : ∀ b xs, H b = some (.tup xs) → H' b = some (.tup xs)) : ∀ (k : NestedKey) (v : V), NV H k v → NV H' k v
  | .none, _, h => by cases h; exact .none
  | .num _, _, h => by cases h; exact .num _
  | .text _, _, h => by cases h; exact .text _
  | .tup ks, _, h => by
    cases h with
    | tup h1 h2 => exact .tup (t _ _ h1) (NVs.to t ks _ h2)
theorem NVs.to {H H' : Hp} (t : ∀ b xs, H b = some (.tup xs) → H' b = some (.tup xs)) : ∀ (ks : List NestedKey) (vs : List V), NVs H ks vs → NVs H' ks vs
  | [], _, h => by cases h; exact .nil
  | k :: ks, _, h => by
    cases h with
    | cons h1 h2 => exact .cons (NV.to t k _ h1) (NVs.to t ks _ h2)
end
section
variable {P : Program} {w : World} {H : Hp} {h : Heap}
mutual
theorem NV.is (ok : HOk P w H h) : ∀ (k : NestedKey) (v : V) (u : Value), NV H k v → RelV v u → NestedIs h k u
  | .none, _, u, n, r => by
    cases n
    have r : u = Value.none := r
    subst r
    exact .none
  | .num _, _, u, n, r => by
    cases n
    obtain ⟨t, r⟩ := r
    subst r
    exact .int _ _
  | .text _, _, u, n, r => by
    cases n
    obtain ⟨t, r⟩ := r
    subst r
    exact .text _ _
  | .tup ks, _, u, n, r => by
    cases n with
    | @tup a vs _ h1 h2 =>
      obtain rfl : u = Value.ref a := r
      obtain ⟨_, its, rv, o, e1, e2, n, e3⟩ := (show ObjOk P w H h a (.tup vs) from ok a _ h1)
      exact .tup e1 e2 e3 (by simpa using NVs.is ok ks vs its h2 rv)
theorem NVs.is (ok : HOk P w H h) : ∀ (ks : List NestedKey) (vs : List V) (us : List Value), NVs H ks vs → Vals vs us → NestedAll h ks us
  | [], _, us, n, r => by
    cases n
    cases r
    exact .nil
  | k :: ks, _, us, n, r => by
    cases n with
    | cons n1 n2 =>
      cases r with
      | cons r1 r2 => exact .cons (NV.is ok k _ _ n1 r1) (NVs.is ok ks _ _ n2 r2)
end
end

/-- what the dict's own object says -/
def Dφ (P : Program) (w : World) (a : Addr) (xs : List (NestedKey × Addr × Value)) : Heap → Prop := fun h =>
  ∃ o es ep, h.get? a = some o ∧ o.ExactDict ∧ o.data = .dict es ep ∧ es.toList = xs.map (entryOfKey (nestedKind P w)) ∧ (xs.map (·.1)).Nodup ∧ xs.length ≤ sizeLine
abbrev Ent (H : Hp) : NestedKey × V → NestedKey × Addr × Value → Prop := fun p q => p.1 = q.1 ∧ NV H p.1 (.ref q.2.1) ∧ p.1.depth ≤ 8 ∧ RelV p.2 q.2.2
/-- at a stands a dict of these keys and values, in their order -/
def DN (P : Program) (w : World) (H : Hp) (a : Addr) (kvs : List (NestedKey × V)) : Prop :=
  (a == sysModules) = false ∧ ∃ xs, H a = some (.ext (Dφ P w a xs)) ∧ Paired (Ent H) kvs xs

theorem DN.to {P : Program} {w : World} {H H' : Hp} {a : Addr} {kvs : List (NestedKey × V)} (d : DN P w H a kvs) (t : ∀ b xs, H b = some (.tup xs) → H' b = some (.tup xs)) (e : H' a = H a) : DN P w H' a kvs := by
  obtain ⟨n, xs, h1, h2⟩ := d
  exact ⟨n, xs, by rw [e]; exact h1, Paired.mapP h2 fun p q z => ⟨z.1, z.2.1.to t, z.2.2⟩⟩

section
variable {H : Hp}
theorem ent_val {kvs : List (NestedKey × V)} {xs : List (NestedKey × Addr × Value)} (r : Paired (Ent H) kvs xs) (k : NestedKey) : RelO (valV kvs k) ((atKey xs k).map (·.2)) := by
  induction r with
  | nil => exact True.intro
  | @cons p q ps qs h t ih =>
    obtain ⟨h1, _, _, h2⟩ := h
    by_cases e : p.1 = k
    · have e' : q.1 = k := h1.symm.trans e
      have b : atKey (q :: qs) k = some q.2 := by simp [atKey, List.find?_cons, e']
      rw [valV_pos e, b]
      exact h2
    · have e' : ¬ q.1 = k := fun z => e (h1.trans z)
      have b : atKey (q :: qs) k = atKey qs k := by simp [atKey, List.find?_cons, e']
      rw [valV_neg e, b]
      exact ih
theorem ent_repl {kvs : List (NestedKey × V)} {xs : List (NestedKey × Addr × Value)} (r : Paired (Ent H) kvs xs) (k : NestedKey) {y : V} {u : Value} (ry : RelV y u) :
    Paired (Ent H) (kvs.map fun kv => if kv.1 = k then (kv.1, y) else kv) (xs.map (putAt k u)) := by
  induction r with
  | nil => exact .nil
  | @cons p q ps qs h t ih =>
    rw [List.map_cons, List.map_cons]
    refine .cons ?_ ih
    obtain ⟨h1, h2, h3, h4⟩ := h
    unfold putAt
    by_cases e : p.1 = k
    · rw [if_pos e, if_pos (h1.symm.trans e)]
      exact ⟨h1, h2, h3, ry⟩
    · rw [if_neg e, if_neg (fun z => e (h1.trans z))]
      exact ⟨h1, h2, h3, h4⟩
theorem ent_put {kvs : List (NestedKey × V)} {xs : List (NestedKey × Addr × Value)} (r : Paired (Ent H) kvs xs) (k : NestedKey) {b : Addr} {y : V} {u : Value} (hb : NV H k (.ref b)) (hd : k.depth ≤ 8) (ry : RelV y u) :
    Paired (Ent H) (putK kvs k y) (storedH xs k b u) := by
  have e : (kvs.any fun kv => decide (kv.1 = k)) = (atKey xs k).isSome := by
    rw [valV_any, (ent_val r k).isSome_eq, Option.isSome_map]
  unfold putK storedH
  rw [e]
  by_cases q : (atKey xs k).isSome = true
  · rw [if_pos q, if_pos q]
    exact ent_repl r k ry
  · rw [if_neg q, if_neg q]
    exact Paired.snoc r ⟨rfl, hb, hd, ry⟩
end

section
variable {P : Program} {w : World} {H : Hp} {h : Heap} {a : Addr} {kvs : List (NestedKey × V)}
theorem ent_is (ok : HOk P w H h) {xs : List (NestedKey × Addr × Value)} (r : Paired (Ent H) kvs xs) : ∀ x ∈ xs, (nestedKind P w).is h x.1 x.2.1 := by
  induction r with
  | nil => intro x hx; exact nomatch hx
  | @cons p q ps qs hq t ih =>
    intro x hx
    rcases List.mem_cons.mp hx with e | hx
    · subst e
      obtain ⟨e1, e2, e3, _⟩ := hq
      rw [e1] at e2 e3
      exact ⟨NV.is ok _ _ _ e2 rfl, e3⟩
    · exact ih x hx
theorem dn_of (ok : HOk P w H h) {xs : List (NestedKey × Addr × Value)} (e : H a = some (.ext (Dφ P w a xs))) (r : Paired (Ent H) kvs xs) : h.DictOfH (nestedKind P w) a xs ∧ xs.length ≤ sizeLine := by
  obtain ⟨⟨o, es, ep, h1, h2, h3, h4, h5, h6⟩, _, _⟩ := ok a _ e
  exact ⟨⟨o, es, ep, h1, h2, h3, h4, ent_is ok r, h5⟩, h6⟩
theorem key_is (ok : HOk P w H h) {k : NestedKey} {b : Addr} (n : NV H k (.ref b)) (hd : k.depth ≤ 8) : (nestedKind P w).is h k b := ⟨NV.is ok _ _ _ n rfl, hd⟩
theorem dn_ok {h' : Heap} {H' : Hp} {xs : List (NestedKey × Addr × Value)} (d : h'.DictOfH (nestedKind P w) a xs) (z : xs.length ≤ sizeLine) : ObjOk P w H' h' a (.ext (Dφ P w a xs)) := by
  obtain ⟨o, es, ep, h1, h2, h3, h4, _, h5⟩ := d
  exact ⟨⟨o, es, ep, h1, h2, h3, h4, h5, z⟩, ⟨o, h1⟩, fun g1 g2 ⟨o, es, ep, k1, k2⟩ st => ⟨o, es, ep, st _ k1, k2⟩⟩
end

section
variable {X : Cx} {o i value : Expr} {td ty tv : TE} {pos pos' : Pos}
/-- {} -/
def tNewN (X : Cx) : TE := fun _ H Q => ∀ p H', H p = none → (∀ b, b ≠ p → H' b = H b) → DN X.prog X.w H' p [] → H' p ≠ none → Q (.ref p) H'
theorem pe_newN : PE X (.Dict [] [] pos) (tNewN X) := ⟨fun pins s σ H Q I h => by
  have nm : (s.heap.objs.size == sysModules) = false := by
    have q := I.big
    refine beq_eq_false_iff_ne.mpr fun e => ?_
    rw [show s.heap.objs.size = sysModules from e] at q
    exact Nat.lt_irrefl _ q
  have new : ObjOk X.prog X.w (upd H s.heap.objs.size (.ext (Dφ X.prog X.w s.heap.objs.size []))) (s.heap.push { cls := .type "dict", data := .dict #[] }) s.heap.objs.size (.ext (Dφ X.prog X.w s.heap.objs.size [])) :=
    dn_ok (Heap.DictOfH.new s.heap) (Nat.zero_le _)
  exact wpAny_Dict_empty ⟨.ref s.heap.objs.size, _, I.laid (a := s.heap.objs.size) (t' := s.toks) (fun _ _ q => Heap.get?_push_of_some _ q) (Nat.le_refl _) new, rfl,
    h _ _ (I.hok.fresh (Nat.le_refl _)) (fun b hb => upd_ne hb) ⟨nm, [], upd_same, .nil⟩ (by rw [upd_same]; exact fun z => nomatch z)⟩⟩

/-- d[k], there; k in d; k not in d -/
def tGetN (X : Cx) (td ty : TE) : TE := fun σ H Q => td σ H fun x H1 => ty σ H1 fun y H2 => ∃ a b kvs k v, x = .ref a ∧ y = .ref b ∧ DN X.prog X.w H2 a kvs ∧ NV H2 k (.ref b) ∧ k.depth ≤ 8 ∧ valV kvs k = some v ∧ Q v H2
def tInN (X : Cx) (neg : Bool) (ty td : TE) : TE := fun σ H Q => ty σ H fun y H1 => td σ H1 fun x H2 => ∃ a b kvs k, x = .ref a ∧ y = .ref b ∧ DN X.prog X.w H2 a kvs ∧ NV H2 k (.ref b) ∧ k.depth ≤ 8 ∧ Q (.bl (if neg then !(valV kvs k).isSome else (valV kvs k).isSome)) H2
theorem room_in1 {A : Around} {P : Program} {w : World} (hu : A.units + 64 < cLine) : (nestedKind P w).room A.in1 := by
  show A.units + 1 + 8 < cLine
  omega
theorem pe_getN (hu : X.A.units + 64 < cLine) (ho : PE X o td) (hi : PE X i ty) (hs : NoSl i) : PE X (.Subscript o i pos) (tGetN X td ty) := by
  refine ⟨fun pins s σ H Q I h => ?_⟩
  refine subD_of PySem.F.slot_dict_getitem.lookup hs (thn (ho.run pins s σ H _ I h) fun u s1 ⟨x, H1, I1, rx, q1⟩ => thn (hi.run pins s1 σ H1 _ I1 q1) fun iv s2 ⟨y, H2, I2, ry, a, b, kvs, k, v, ex, ey, ⟨nm, xs, d1, d2⟩, n, kd, hv, q2⟩ => ?_)
  subst ex ey
  obtain rfl : u = Value.ref a := rx
  obtain rfl : iv = Value.ref b := ry
  obtain ⟨dd, z⟩ := dn_of I2.hok d1 d2
  refine ⟨dd.typeIs, ?_⟩
  obtain ⟨w', hw, rw'⟩ := RelO.some_of (v := v) (o := (atKey xs k).map (·.2)) (by rw [← hv]; exact ent_val d2 k)
  obtain ⟨p, hp, hp2⟩ := Option.map_eq_some_iff.mp hw
  refine wpAny_getItem_heap (room_in1 hu) (key_is I2.hok n kd) dd hp ?_
  rw [hp2]
  exact ⟨v, H2, I2.tok _, rw', q2⟩
theorem pc_inN (hu : X.A.units + 64 < cLine) (hi : PE X i ty) (ho : PE X o td) : PC X .In i o (tInN X false ty td) := by
  refine ⟨fun pins s σ H Q I h => ?_⟩
  refine thn (hi.run pins s σ H _ I h) fun iv s1 ⟨y, H1, I1, ry, q1⟩ => thn (ho.run pins s1 σ H1 _ I1 q1) fun u s2 ⟨x, H2, I2, rx, a, b, kvs, k, ex, ey, ⟨nm, xs, d1, d2⟩, n, kd, q2⟩ => ?_
  subst ex ey
  obtain rfl : u = Value.ref a := rx
  obtain rfl : iv = Value.ref b := ry
  obtain ⟨dd, z⟩ := dn_of I2.hok d1 d2
  refine wpAny_in_heap (room_in1 hu) (key_is I2.hok n kd) nm dd ⟨.bl (atKey xs k).isSome, H2, I2.tok _, rfl, ?_⟩
  have e := (ent_val d2 k).isSome_eq
  rw [Option.isSome_map] at e
  rw [← e]
  exact q2
theorem pc_notinN (hu : X.A.units + 64 < cLine) (hi : PE X i ty) (ho : PE X o td) : PC X .NotIn i o (tInN X true ty td) := by
  refine ⟨fun pins s σ H Q I h => ?_⟩
  refine thn (hi.run pins s σ H _ I h) fun iv s1 ⟨y, H1, I1, ry, q1⟩ => thn (ho.run pins s1 σ H1 _ I1 q1) fun u s2 ⟨x, H2, I2, rx, a, b, kvs, k, ex, ey, ⟨nm, xs, d1, d2⟩, n, kd, q2⟩ => ?_
  subst ex ey
  obtain rfl : u = Value.ref a := rx
  obtain rfl : iv = Value.ref b := ry
  obtain ⟨dd, z⟩ := dn_of I2.hok d1 d2
  refine wpAny_notIn_heap (room_in1 hu) (key_is I2.hok n kd) nm dd ⟨.bl (!(atKey xs k).isSome), H2, I2.tok _, rfl, ?_⟩
  have e := (ent_val d2 k).isSome_eq
  rw [Option.isSome_map] at e
  rw [← e]
  exact q2
/-- d[k] = v -/
def sPutN (X : Cx) (td ty tv : TE) : TS := fun D σ H => tv σ H fun v H1 => td σ H1 fun x H2 => ty σ H2 fun y H3 => ∃ a b kvs k, x = .ref a ∧ y = .ref b ∧ DN X.prog X.w H3 a kvs ∧ NV H3 k (.ref b) ∧ k.depth ≤ 8 ∧ kvs.length < sizeLine ∧
  ∀ H4, (∀ c, c ≠ a → H4 c = H3 c) → DN X.prog X.w H4 a (putK kvs k v) → H4 a ≠ none → D.nx σ H4
theorem ps_putN (hu : X.A.units + 64 < cLine) (ho : PE X o td) (hi : PE X i ty) (hv : PE X value tv) (hs : swapsWith value (some (.Subscript o i pos')) pos.line X.env = pure false) :
    PS X (.Assign [.Subscript o i pos'] value pos) (sPutN X td ty tv) := by
  refine ⟨fun pins s σ H D I h => ?_⟩
  refine wpAny_Assign_Subscript (thn (hv.run pins s σ H _ I h) fun r s1 ⟨v, H1, I1, rv, q1⟩ => thn (ho.run pins s1 σ H1 _ I1 q1) fun u s2 ⟨x, H2, I2, rx, q2⟩ => thn (hi.run pins s2 σ H2 _ I2 q2) fun iv s3 ⟨y, H3, I3, ry, a, b, kvs, k, ex, ey, ⟨nm, xs, d1, d2⟩, n, kd, hl, q3⟩ => ?_) hs
  subst ex ey
  obtain rfl : u = Value.ref a := rx
  obtain rfl : iv = Value.ref b := ry
  obtain ⟨dd, z⟩ := dn_of I3.hok d1 d2
  refine wpAny_setItem_heap (hsz := z) (room_in1 hu) (key_is I3.hok n kd) dd fun h' dd' hs => ?_
  have ep := ent_put d2 k n kd (y := v) (u := r) rv
  have hl' : (storedH xs k b r).length ≤ sizeLine := by
    rw [← Paired.length ep]
    have := length_putK kvs k v
    omega
  have tk : ∀ c ys, H3 c = some (.tup ys) → upd H3 a (.ext (Dφ X.prog X.w a (storedH xs k b r))) c = some (.tup ys) := fun c ys e => by
    rw [upd_ne (ne_of e d1 (fun z => nomatch z))]
    exact e
  have he : ∃ q, h'.get? a = some q := let ⟨q, _, _, hq, _⟩ := dd'; ⟨q, hq⟩
  refine ⟨σ, _, d_write (ob := .ext (Dφ X.prog X.w a (storedH xs k b r))) I3 (by rw [d1]; exact True.intro) hs he (dn_ok dd' hl'), ?_⟩
  exact q3 _ (fun c hc => upd_ne hc) ⟨nm, _, upd_same, Paired.mapP ep fun p q e => ⟨e.1, e.2.1.to tk, e.2.2⟩⟩ (by rw [upd_same]; exact fun z => nomatch z)
/-- len(d) -/
theorem call_lenN : CallR X (.builtin "len") (fun xs H Q => ∃ a kvs, xs = [.ref a] ∧ DN X.prog X.w H a kvs ∧ Q (.int (kvs.length : Int)) H) := by
  intro pins s σ H xs us Q I r h
  obtain ⟨a, kvs, rfl, ⟨nm, ys, d1, d2⟩, q⟩ := h
  obtain ⟨u, rfl, ru⟩ := vals1 r
  obtain rfl : u = Value.ref a := ru
  obtain ⟨dd, z⟩ := dn_of I.hok d1 d2
  have hl : kvs.length = ys.length := Paired.length d2
  have hn := line63
  refine call_len_dictH nm dd (by omega) ⟨.int (kvs.length : Int), H, I.tok _, ⟨s.toks + 1, ?_⟩, q⟩
  rw [hl]
end

/-! ### keys numbered as they come -/
section
variable {κ : Type} [DecidableEq κ]
def dictFrom : Nat → List κ → List (κ × V)
  | _, [] => []
  | n, k :: r => (k, .int (n : Int)) :: dictFrom (n + 1) r
theorem dictFrom_len : ∀ (l : List κ) (n : Nat), (dictFrom n l).length = l.length
  | [], _ => rfl
  | _ :: l, n => congrArg (· + 1) (dictFrom_len l (n + 1))
theorem dictFrom_snoc (k : κ) : ∀ (l : List κ) (n : Nat), dictFrom n (l ++ [k]) = dictFrom n l ++ [(k, .int ((n + l.length : Nat) : Int))]
  | [], n => rfl
  | x :: l, n => by
    show (x, V.int (n : Int)) :: dictFrom (n + 1) (l ++ [k]) = (x, V.int (n : Int)) :: (dictFrom (n + 1) l ++ [(k, .int ((n + (x :: l).length : Nat) : Int))])
    rw [dictFrom_snoc k l (n + 1), List.length_cons, Nat.add_right_comm n 1, Nat.add_assoc]
theorem valV_dictFrom (k : κ) : ∀ (l : List κ) (n : Nat), valV (dictFrom n l) k = if k ∈ l then some (.int ((n + l.idxOf k : Nat) : Int)) else none
  | [], _ => rfl
  | x :: l, n => by
    show valV ((x, V.int (n : Int)) :: dictFrom (n + 1) l) k = _
    by_cases e : x = k
    · subst e
      rw [valV_pos rfl, if_pos List.mem_cons_self]
      simp
    · rw [valV_neg e, valV_dictFrom k l (n + 1)]
      by_cases h : k ∈ l
      · rw [if_pos h, if_pos (List.mem_cons_of_mem _ h), List.idxOf_cons]
        simp only [beq_eq_false_iff_ne.mpr e, cond_false]
        congr 2
        omega
      · rw [if_neg h, if_neg (by simp [h, Ne.symm e])]
theorem putK_dictFrom {k : κ} {l : List κ} {n : Nat} (h : k ∉ l) : putK (dictFrom n l) k (.int ((n + l.length : Nat) : Int)) = dictFrom n (l ++ [k]) := by
  unfold putK
  rw [valV_any, valV_dictFrom, if_neg h, dictFrom_snoc]
  rfl
/-- the different ones, as they come -/
def addSeen (seen : List κ) (m : κ) : List κ := if m ∈ seen then seen else seen ++ [m]
def seenOf (ms : List κ) : List κ := ms.foldl addSeen []
theorem seenOf_snoc (ms : List κ) (m : κ) : seenOf (ms ++ [m]) = addSeen (seenOf ms) m := by
  unfold seenOf
  rw [List.foldl_append]
  rfl
theorem addSeen_mem (seen : List κ) (m : κ) : m ∈ addSeen seen m := by
  unfold addSeen
  split
  · assumption
  · simp
theorem addSeen_pre (seen : List κ) (m : κ) : ∃ t, addSeen seen m = seen ++ t := by
  unfold addSeen
  split
  · exact ⟨[], by simp⟩
  · exact ⟨[m], rfl⟩
theorem foldl_pre (ms : List κ) : ∀ seen : List κ, ∃ t, ms.foldl addSeen seen = seen ++ t := by
  induction ms with
  | nil => exact fun seen => ⟨[], by simp⟩
  | cons m ms ih =>
    intro seen
    obtain ⟨t1, e1⟩ := addSeen_pre seen m
    obtain ⟨t2, e2⟩ := ih (addSeen seen m)
    exact ⟨t1 ++ t2, by rw [List.foldl_cons, e2, e1, List.append_assoc]⟩
theorem mem_seenOf (ms : List κ) : ∀ m, m ∈ seenOf ms ↔ m ∈ ms := by
  have all : ∀ (ms seen : List κ) (m : κ), m ∈ ms.foldl addSeen seen ↔ m ∈ seen ∨ m ∈ ms := by
    intro ms
    induction ms with
    | nil => intro seen m; simp
    | cons x ms ih =>
      intro seen m
      rw [List.foldl_cons, ih]
      unfold addSeen
      by_cases h : x ∈ seen
      · rw [if_pos h, List.mem_cons]
        constructor
        · rintro (h1 | h1)
          · exact .inl h1
          · exact .inr (.inr h1)
        · rintro (h1 | rfl | h1)
          · exact .inl h1
          · exact .inl h
          · exact .inr h1
      · rw [if_neg h, List.mem_append, List.mem_singleton, List.mem_cons, or_assoc]
  intro m
  unfold seenOf
  rw [all]
  simp
theorem seenOf_nodup (ms : List κ) : (seenOf ms).Nodup := by
  have all : ∀ (ms seen : List κ), seen.Nodup → (ms.foldl addSeen seen).Nodup := by
    intro ms
    induction ms with
    | nil => exact fun _ h => h
    | cons x ms ih =>
      intro seen h
      refine ih _ ?_
      unfold addSeen
      split
      · exact h
      · rename_i hx
        rw [List.nodup_append]
        exact ⟨h, by simp, fun a ha b hb => by rw [List.mem_singleton.mp hb]; exact fun e => hx (e ▸ ha)⟩
  exact all ms [] List.nodup_nil
theorem idxOf_pre {seen t : List κ} {m : κ} (h : m ∈ seen) : (seen ++ t).idxOf m = seen.idxOf m := by
  rw [List.idxOf_append, if_pos h]
def numb (ms : List κ) : List Nat := ms.map fun m => (seenOf ms).idxOf m
theorem numb_len (ms : List κ) : (numb ms).length = ms.length := List.length_map _
/-- one more -/
theorem numb_snoc (ms : List κ) (m : κ) : numb (ms ++ [m]) = numb ms ++ [(addSeen (seenOf ms) m).idxOf m] := by
  unfold numb
  rw [List.map_append, seenOf_snoc]
  refine congrArg (· ++ _) (List.map_congr_left fun x hx => ?_)
  obtain ⟨t, e⟩ := addSeen_pre (seenOf ms) m
  rw [e, idxOf_pre ((mem_seenOf ms x).mpr hx)]
theorem seenOf_len (ms : List κ) : (seenOf ms).length ≤ ms.length := by
  have all : ∀ (ms seen : List κ), (ms.foldl addSeen seen).length ≤ seen.length + ms.length := by
    intro ms
    induction ms with
    | nil => intro _; exact Nat.le_refl _
    | cons x ms ih =>
      intro seen
      have h := ih (addSeen seen x)
      have h2 : (addSeen seen x).length ≤ seen.length + 1 := by
        unfold addSeen
        split
        · omega
        · simp
      rw [List.foldl_cons, List.length_cons]
      omega
  have := all ms []
  rw [List.length_nil, Nat.zero_add] at this
  exact this
theorem idxOf_map_inj {α : Type} [DecidableEq α] (f : α → κ) (hf : ∀ a b, f a = f b → a = b) (a : α) : ∀ l : List α, (l.map f).idxOf (f a) = l.idxOf a
  | [] => rfl
  | x :: l => by
    rw [List.map_cons, List.idxOf_cons, List.idxOf_cons, idxOf_map_inj f hf a l]
    by_cases e : x = a
    · rw [e, beq_self_eq_true, beq_self_eq_true]
    · rw [beq_eq_false_iff_ne.mpr e, beq_eq_false_iff_ne.mpr fun z => e (hf _ _ z)]
end
end QD
end

section
set_option Elab.async false
set_option linter.all false
set_option maxRecDepth 100000
set_option maxHeartbeats 2000000
/-! sorted(range(n), key=lambda number: -len(rows[number][0])) -/
namespace QL
open PySem PySem.Spec PyProof.Rows L2

abbrev lamArgs (x : Str) (p : Pos) : Arguments := { posonlyargs := [], args := [{ arg := x, annotation := none, pos := p }], vararg := none, kwonlyargs := [], kw_defaults := [], kwarg := none, defaults := [] }
abbrev lamBody (x rows : Str) (p1 p2 p3 p4 p5 p6 p7 p8 : Pos) : Expr :=
  .UnaryOp .USub (.Call (.Name "len" p1) [.Subscript (.Subscript (.Name rows p2) (.Name x p3) p4) (.Constant (.int 0) 0 p5) p6] [] p7) p8
abbrev lamScope (x rows : Str) : Scope := { kind := .function, names := [(x, .local), (rows, .free), ("len", .globalImplicit)], isGenerator := false, isCoroutine := false, more := [] }

theorem ls_x : (lamScope ("number" : Str) ("standings" : Str)).names.lookup ("number" : Str) = some .local := by decide +kernel
theorem ls_r : (lamScope ("number" : Str) ("standings" : Str)).names.lookup ("standings" : Str) = some .free := by decide +kernel
theorem ls_l : (lamScope ("number" : Str) ("standings" : Str)).names.lookup ("len" : Str) = some .globalImplicit := by decide +kernel
theorem ls_c : ∀ x ∈ (lamScope ("number" : Str) ("standings" : Str)).names, x.2 ≠ .cell := by decide +kernel
theorem isList_keeps {h h' : Heap} {a : Addr} {xs : Array Value} (x : h.IsList a xs) (k : ∀ b o, h.get? b = some o → h'.get? b = some o) : h'.IsList a xs := by
  obtain ⟨o, ho, r⟩ := x
  exact ⟨o, k _ _ ho, r⟩
section
variable {prog : Program} {w : World} {A : Around} {s : Shared} {mg mb : Str → Option Value} {f c c' a t wd : Addr} {q : Str} {cl : List (Str × Addr)} {pm ctv : Value} {p0 p1 p2 p3 p4 p5 p6 p7 p8 : Pos} {its tits wits : List Value} {n : Nat} {tk : Tok}
theorem body_runs {env : Env} {E : Value → Shared → Prop} {Q : Value → Shared → Prop}
    (hk : env.scope.kind = .function) (hgl : env.globals = mainGlobals) (hbl : env.builtins = builtinsNs) (k1 : env.kindOf "number" = some .local) (k2 : env.kindOf "standings" = some .free) (k3 : env.kindOf "len" = some .globalImplicit)
    (hn : s.heap.Ns env.locals fun y => if y = ("number" : Str) then some (.int n tk) else none) (hc : env.cells.lookup ("standings" : Str) = some c) (hcell : s.heap.IsCell c (some (.ref a)))
    (hg : s.heap.Ns mainGlobals mg) (hm : mg ("len" : Str) = none) (hb : s.heap.Ns builtinsNs mb) (hv : mb ("len" : Str) = some (.builtin "len"))
    (hl : s.heap.IsList a its.toArray) (hi : its[n]? = some (.ref t)) (ht : IsTup s.heap t tits.toArray) (hw : tits[0]? = some (.ref wd)) (hwl : s.heap.IsList wd wits.toArray)
    (hz : its.length ≤ sizeLine) (hzt : tits.length ≤ sizeLine) (hz2 : wits.length ≤ sizeLine)
    (hQ : ∀ tk t', Q (.int (-(wits.length : Int)) t') { s with toks := tk }) :
    wpAny (model prog w) A (eval (lamBody ("number" : Str) ("standings" : Str) p1 p2 p3 p4 p5 p6 p7 p8) env) Q E s := by
  have hn63 := line63
  refine UnaryOp_ ?_
  refine wpAny_Call_Name_kw (Calls.Name_function_global hk k3 (Calls.loadGlobal_builtin (by rw [hgl]; exact hg) hm (by rw [hbl]; exact hb) hv ?_))
  refine PyProof.Rows.callWith_builtin1 (args_cons ?_) (by rfl) (by rfl)
  refine Subscript_ (Subscript_ ?_)
  refine wpAny_Name (wpAny_loadName_free hk k2 hc hcell ?_)
  refine wpAny_Name (wpAny_loadName_local (v := .int n tk) hk k1 hn (by rw [if_pos rfl]) ?_)
  have hlt : n < its.length := (List.getElem?_eq_some_iff.mp hi).1
  refine item_listR hl (by omega) (by omega) (x := .ref t) (by simpa using hi) ?_
  refine wpAny_Constant_int ?_
  have h0 : 0 < tits.length := (List.getElem?_eq_some_iff.mp hw).1
  refine subscriptTail_builtinR (x := .ref wd) ht.typeIs slot_tuple_getitem.lookup
    (getItem_tuple (j := 0) (Q := fun r s' => r = .ref wd ∧ _) ht (by omega) (by omega) (by rw [List.size_toArray]; exact seqIndex_of (Int.le_refl 0) (by omega)) (by simpa using hw) ⟨rfl, ?_⟩)
  refine args_nil ?_
  refine Calls.call_len_list hwl (by rw [List.size_toArray]; omega) ?_
  refine neg_int ?_
  rw [List.size_toArray]
  exact hQ _ _

/-- the lambda called -/
theorem lam_call (hf : s.heap.get? f = some (PySem.W.kla_obj "<lambda>" q (lamArgs ("number" : Str) p0) (lamBody ("number" : Str) ("standings" : Str) p1 p2 p3 p4 p5 p6 p7 p8) (lamScope ("number" : Str) ("standings" : Str)) cl pm c' ctv))
    (hcd : s.heap.CodeRec (.ref c') q) (hroom : A.depth < recursionLimit) (hlim : s.heap.NoLimit)
    (hc : cl.lookup ("standings" : Str) = some c) (hcell : s.heap.IsCell c (some (.ref a)))
    (hg : s.heap.Ns mainGlobals mg) (hm : mg ("len" : Str) = none) (hb : s.heap.Ns builtinsNs mb) (hv : mb ("len" : Str) = some (.builtin "len"))
    (hl : s.heap.IsList a its.toArray) (hi : its[n]? = some (.ref t)) (ht : IsTup s.heap t tits.toArray) (hw : tits[0]? = some (.ref wd)) (hwl : s.heap.IsList wd wits.toArray)
    (hz : its.length ≤ sizeLine) (hzt : tits.length ≤ sizeLine) (hz2 : wits.length ≤ sizeLine) :
    wpAny (model prog w) A (call (.ref f) [.int n tk]) (PySem.W.KeyPure (.int (-(wits.length : Int))) s) (fun _ _ => False) s := by
  refine wpAny_call ?_
  refine PySem.W.kla_callFunE hroom hf rfl rfl rfl rfl hcd ?_
  have eb : bindArgs (PySem.W.kla_fn "<lambda>" q (lamArgs ("number" : Str) p0) (lamBody ("number" : Str) ("standings" : Str) p1 p2 p3 p4 p5 p6 p7 p8) (lamScope ("number" : Str) ("standings" : Str)) cl pm (.ref c') ctv) ⟨[.int n tk], []⟩ = pure [(("number" : Str), .int n tk)] := rfl
  rw [eb]
  refine wpAny_pure (wpAny_newFunctionEnv ls_c (fun y hy => by
    rw [List.mem_singleton.mp hy]
    exact ls_x) (fun h₁ hns hsb => ⟨hlim.fresh _ hsb, ?_⟩) rfl)
  have kp : ∀ b o, s.heap.get? b = some o → h₁.get? b = some o := fun b o e => hsb.extBut b o (Nat.ne_of_lt (Heap.lt_size e)) (Heap.get?_push_of_some _ e)
  refine PySem.W.kla_codeExpr ?_
  have hns' : h₁.Ns s.heap.objs.size fun y => if y = ("number" : Str) then some (.int n tk) else none := by
    have e : (fun y => ([(("number" : Str), Value.int n tk)] : List (Str × Value)).reverse.lookup y) = fun y => if y = ("number" : Str) then some (.int n tk) else none := by
      funext y
      show List.lookup y [(("number" : Str), Value.int n tk)] = _
      rw [List.lookup_cons]
      by_cases hy : y = ("number" : Str)
      · rw [if_pos hy, hy]; simp
      · rw [if_neg hy, beq_eq_false_iff_ne.mpr hy]; rfl
    rw [← e]
    exact hns
  refine body_runs (s := { s with heap := h₁, toks := s.toks + 1 }) rfl rfl rfl ls_x ls_r ls_l hns' hc ?_ (hg.keeps kp) hm (hb.keeps kp) hv (isList_keeps hl kp) hi (ht.keeps kp) hw (isList_keeps hwl kp) hz hzt hz2 fun tk2 t2 => ?_
  · obtain ⟨o, ho, hd⟩ := hcell
    exact ⟨o, kp _ _ ho, hd⟩
  · exact ⟨h₁, tk2, rfl, kp, .int _ _⟩
end

section
variable {prog : Program} {w : World} {A : Around} {E : Value → Shared → Prop} {s : Shared} {r f : Addr} {t u v : Tok} {n : Nat}
abbrev IsN (x : Value) (i : Nat) : Prop := ∃ t, x = .int (i : Int) t
theorem each_ints {R : Value → Nat → Prop} : ∀ (l : List Value) (k : Nat), (∀ j x, l[j]? = some x → R x (k + j)) → PySem.W.EachIs R l (List.range' k l.length)
  | [], k, _ => .nil
  | x :: l, k, h => by
    rw [List.length_cons, List.range'_succ]
    refine .cons (by simpa using h 0 x rfl) (each_ints l (k + 1) fun j y e => ?_)
    have := h (j + 1) y (by simpa using e)
    rwa [Nat.add_assoc, Nat.add_comm 1 j]
theorem sorted_range_key {Q : Value → Shared → Prop} (key : Nat → Int) (hh : A.handled = none) (hr : IsRange s.heap r 0 (n : Int) 1 t u v) (hn : n ≤ 100000) (hu : A.units + 10 < cLine)
    (turn : ∀ (i : Nat) (tk : Tok), i < n → ∀ (h : Heap) (tk0 : Nat), (∀ b o, s.heap.get? b = some o → h.get? b = some o) →
      wpAny (model prog w) A.in1.in1 (call (.ref f) [.int i tk]) (PySem.W.KeyPure (.int (key i)) { s with heap := h, toks := tk0 }) (fun _ _ => False) { s with heap := h, toks := tk0 })
    (h : ∀ (out : List Value) (c : Nat) (h1 h' : Heap) (tk : Nat), (∀ b o, s.heap.get? b = some o → h1.get? b = some o) → (∀ b o, h1.get? b = some o → h'.get? b = some o) → h'.get? h1.objs.size = some (seqObj "list" out.toArray c) →
      PySem.W.EachIs IsN out ((List.range n).mergeSort fun i j => decide (key i ≤ key j)) → Q (.ref h1.objs.size) { s with heap := h', toks := tk }) :
    wpAny (model prog w) A (call (.builtin "sorted") [.ref r] [(Str.ofString "key", .ref f)]) Q E s := by
  have hsz := sizeLine_eq
  refine call_function_entry_kw kind_sorted plain_sorted entry_sorted (ksk_s1 _ _) ?_
  unfold Builtin.«sorted»
  refine wpAny_bind (m := checkCount "sorted" 1 1 _) (wpAny_pure ?_)
  have hrs : Builtin.Range.rangeSize 0 (n : Int) 1 = n := by
    unfold Builtin.Range.rangeSize
    simp
    omega
  have hsm : Builtin.Range.small 0 (n : Int) 1 = true := by
    unfold Builtin.Range.small
    rw [hrs]
    simp [Builtin.Range.rangeFitsLong]
    omega
  refine wpAny_bind (collect_range (A := A.in1) hh hr hsm hrs (by omega) fun h1 tk1 acc k1 hi => ?_)
  have hal : acc.toList.length = n := by rw [Array.length_toList]; exact hi.1
  refine wpAny_bind (wpAny_newList ?_ (by rw [hal]; omega))
  have hL : (h1.push (seqObj "list" acc.toList.toArray 0)).get? h1.objs.size = some (seqObj "list" acc.toList.toArray 0) := Heap.get?_push_size _ rfl
  have k2 : ∀ b o, s.heap.get? b = some o → (h1.push (seqObj "list" acc.toList.toArray 0)).get? b = some o := fun b o e => Heap.get?_push_of_some _ (k1 b o e)
  have ebs : PySem.W.EachIs IsN acc.toList (List.range n) := by
    have e := each_ints (R := IsN) acc.toList 0 fun j x hx => ?_
    · rw [hal, ← List.range_eq_range'] at e
      exact e
    · obtain ⟨t, ht⟩ := hi.2 j x (by simpa using hx)
      exact ⟨t, by rw [ht, Int.mul_one, Int.zero_add, Nat.zero_add]⟩
  refine wpAny_bind (wpAny_holding (wpAny_call_entry_kw slot_list_sort ⟨_, hL, rfl⟩ entry_list_sort ?_ (ksk_l1 _ _)))
  rw [ksk_t1]
  have up : ∀ {g : Heap}, PySem.W.KeepsBut h1.objs.size (h1.push (seqObj "list" acc.toList.toArray 0)) g → ∀ b o, h1.get? b = some o → g.get? b = some o := fun {g} kp b o e =>
    kp b o (Nat.ne_of_lt (Heap.lt_size e)) (Heap.get?_push_of_some _ e)
  refine PySem.W.keyH_tree (kz := (List.range n).map fun i => PyData.int (key i)) hL (by rw [List.length_map, List.length_range, hal]) (by rw [hal]; omega) (PySem.W.AllAlike.of fun i j => rfl) (PySem.W.Sortable.others fun i => ⟨(fun z => nomatch z), fun xs z => nomatch z⟩) (fun d hd => ?_)
    (PySem.W.keyH_turns (s := { s with heap := h1.push (seqObj "list" acc.toList.toArray 0), toks := tk1 }) (k := fun i => PyData.int (key i)) ebs fun x i hR hx h2 tk2 kp => ?_) fun h2 tk2 out c kp hD ko => ⟨_, rfl, ?_⟩
  · obtain ⟨i, _, rfl⟩ := List.mem_map.mp hd
    show A.units + 1 + 1 + 0 < cLine
    omega
  · obtain ⟨t, rfl⟩ := hR
    exact turn i t (List.mem_range.mp hx) h2 tk2 fun b o e => up kp b o (k1 b o e)
  · refine wpAny_pure ⟨_, rfl, ?_⟩
    have e := PySem.W.keyedOut_each _ ko ebs
    rw [PySem.W.dataLe_int] at e
    exact h out c h1 h2 tk2 k1 (up kp) hD e
end

section
open LamX
variable {X : Cx}
theorem pe_range1 {p pos : Pos} {e : Expr} {te : TE} (hg : Gl X "range") (hm : X.mg "range" = none) (he : PE X e te) (hs : starEach [e] X.env = (false, eval e X.env) :: starEach [] X.env := by rfl) : PE X (.Call (.Name "range" p) [e] [] pos) (tCB (fun vs H Q => ∃ j : Int, vs = [V.int j] ∧ ∀ q, H q = none → Q (.ref q) (upd H q (.rng 0 j))) (tCons te tNil)) :=
  pe_callTy (T := "range") (fun pins s σ H vs us Q I r h => by
    obtain ⟨j, rfl, q⟩ := h
    obtain ⟨u1, rfl, rj⟩ := vals1 r
    obtain ⟨u, rfl⟩ := rj
    refine call_range_1 ⟨.ref s.heap.objs.size, upd H s.heap.objs.size (.rng 0 j), I.laid (t' := s.toks + 1 + 1) (fun b o e => Heap.get?_push_of_some _ e) (Nat.le_refl _) ?_, rfl, q _ (I.hok.fresh (Nat.le_refl _))⟩
    exact ⟨s.toks, u, s.toks + 1, Heap.get?_push_size _ rfl⟩) hg hm (by decide +kernel) (pa_cons he pa_nil (hs := hs)) (he := hs)

/-- sorted(range(..), key=lambda number: -len(rows[number][0])), the rows in slot i, a cell -/
def tSortLam (T : List (Addr × Str)) (K : PySem.W.Frag) (i : Nat) (ti : TE) : TE := fun σ H Q => ti σ H fun x H1 => ∃ (r : Addr) (n : Nat) (a : Addr) (ts : List Addr) (key : Nat → Int), x = .ref r ∧ H1 r = some (.rng 0 (n : Int)) ∧ n ≤ 100000 ∧ σ[i]? = some (some (.ref a)) ∧
  SqL K H1 a (ts.map V.ref) ∧ ts.length = n ∧ (∀ (j : Nat) (t : Addr), ts[j]? = some t → ∃ (wd : Addr) (more xs : List V), SqT K H1 t (.ref wd :: more) ∧ SqL K H1 wd xs ∧ key j = -(xs.length : Int)) ∧ Tabs T H1 ∧
  ∀ (p : Addr) (H2 : Hp), ExtN H1 H2 → Tabs T H2 → H2 p = none → Q (.ref p) (upd H2 p (.lst (((List.range n).mergeSort fun i j => decide (key i ≤ key j)).map fun (j : Nat) => V.int (j : Int))))
theorem sqL_ext {K : PySem.W.Frag} {H H' : Hp} {a : Addr} {xs : List V} (e : ExtN H H') (h : SqL K H a xs) : SqL K H' a xs := by
  rcases h with (h | ⟨o, h⟩) | h
  · exact .inl (.inl (e _ _ h fun ps z => nomatch z))
  · exact .inl (.inr ⟨o, e _ _ h fun ps z => nomatch z⟩)
  · exact .inr h
theorem sqT_ext {K : PySem.W.Frag} {H H' : Hp} {a : Addr} {xs : List V} (e : ExtN H H') (h : SqT K H a xs) : SqT K H' a xs := by
  rcases h with (h | ⟨o, h⟩) | h
  · exact .inl (.inl (e _ _ h fun ps z => nomatch z))
  · exact .inl (.inr ⟨o, e _ _ h fun ps z => nomatch z⟩)
  · exact .inr h
theorem vals_of_each : ∀ (l : List Value) (ns : List Nat), PySem.W.EachIs IsN l ns → Vals (ns.map fun (j : Nat) => V.int (j : Int)) l
  | _, _, .nil => .nil
  | _, _, .cons h t => .cons h (vals_of_each _ _ t)
theorem pe_sortLam {T : List (Addr × Str)} {i : Nat} {iter : Expr} {ti : TE} {c P : Addr} {k : Nat} {q1 kpos lpos pos p0 p1 p2 p3 p4 p5 p6 p7 p8 : Pos} (hg : Gl X "sorted") (hm : X.mg "sorted" = none) (hmL : X.mg "len" = none) (hi : PE X iter ti)
    (hN : X.N[i]? = some ("standings" : Str)) (hcl : X.env.scope.names.lookup ("standings" : Str) = some .cell) (TB : TabB X.base X.mg c P) (hcode : X.env.code = .ref c) (hmT : (P, X.env.qual ++ "<lambda>") ∈ T) (hu : ∀ p ∈ T, p.1 = P → p.2 = X.env.qual ++ "<lambda>") (hr : Room k X.A)
    (he : backTo pos (starEach [iter] X.env) = (false, eval iter X.env) :: backTo pos (starEach [] X.env) := by rfl) (hpl : (backTo pos (starEach [iter] X.env)).any (·.1) = false := by rfl) :
    PE X (.Call (.Name "sorted" q1) [iter] [⟨some "key", .Lambda (lamArgs ("number" : Str) p0) (lamBody ("number" : Str) ("standings" : Str) p1 p2 p3 p4 p5 p6 p7 p8) (lamScope ("number" : Str) ("standings" : Str)) lpos, kpos⟩] pos) (tSortLam T X.K i ti) := by
  refine ⟨fun pins s σ H Q I h => ?_⟩
  refine wpAny_Call_Name_kw (ld_blt I hg hm (u := .builtin "sorted") (by decide +kernel) ?_)
  refine PyProof.Rows.callWith_kw ?_ he hpl rfl rfl
  rw [he]
  refine Calls.spliced_cons (thn (hi.run pins s σ H _ I h) fun u s1 ⟨x, H1, I1, r1, q1⟩ => ?_)
  obtain ⟨r, n, a, ts, key, rfl, hrg, hn, hσ, hS, hlen, hrows, hT, q⟩ := q1
  obtain rfl : u = Value.ref r := r1
  refine Calls.spliced_nil ?_
  show wpAny _ _ (evalAll [do let v ← eval (.Lambda (lamArgs ("number" : Str) p0) (lamBody ("number" : Str) ("standings" : Str) p1 p2 p3 p4 p5 p6 p7 p8) (lamScope ("number" : Str) ("standings" : Str)) lpos) X.env; standAt pos; pure v]) _ _ s1
  have hfree : ∀ y ∈ (lamScope ("number" : Str) ("standings" : Str)).names, y.2 = NameKind.free → ∃ c, X.env.cells.lookup y.1 = some c := fun y hy e => by
    have hy1 : y = (("standings" : Str), NameKind.free) := by
      rcases List.mem_cons.mp hy with rfl | hy
      · cases e
      · rcases List.mem_cons.mp hy with rfl | hy
        · rfl
        · rw [List.mem_singleton.mp hy] at e
          cases e
    rw [hy1]
    exact I1.ok.has _ (.inl hcl)
  refine wpAny_evalAll_cons (wpAny_bind (lam_make2 I1 TB hcode hmT hu hT rfl hfree fun f c' pm ctv H2 s2 I2 e2 T2 hf hfn hfr hco => wpAny_bind (wpAny_standAt (wpAny_pure (wpAny_evalAll_nil ?_)))))
  -- the def's cell of rows
  have hcell : ∃ c2, X.env.cells.lookup ("standings" : Str) = some c2 ∧ s2.heap.IsCell c2 (some (.ref a)) := by
    obtain ⟨m, hn2, hl⟩ := I2.loc
    obtain ⟨w2, rv, l⟩ := hl i ("standings" : Str) _ hN hσ (.inr (.inl hcl))
    obtain rfl : w2 = Value.ref a := rv
    rcases l with ⟨hk, _⟩ | ⟨_, c2, h1, h2⟩
    · have hk : X.env.scope.names.lookup ("standings" : Str) = some .local := hk
      rw [hcl] at hk
      cases hk
    · exact ⟨c2, h1, h2⟩
  obtain ⟨c2, hc2, hcell⟩ := hcell
  have hcl2 : (cloFrom X.env.cells (lamScope ("number" : Str) ("standings" : Str)).names []).lookup ("standings" : Str) = some c2 := NdefX.clo_has hfree (by decide +kernel) hc2
  obtain ⟨mb, hb1, hb2⟩ := I2.mod.blt
  have rg2 : H2 r = some (.rng 0 (n : Int)) := e2 _ _ hrg fun ps z => nomatch z
  obtain ⟨t1, t2, t3, hrr⟩ := (show ObjOk X.prog X.w H2 s2.heap r (.rng 0 (n : Int)) from I2.hok r _ rg2)
  obtain ⟨its, rv, pl, hz⟩ := I2.list (sqL_ext e2 hS)
  have hun := hr.un
  have hdp := hr.dp
  refine sorted_range_key (f := f) key hr.hd hrr hn (by omega) (fun j tk hj h0 tk0 k0 => ?_) fun out cc h1 h' tk k1 k2 hD hE => ?_
  · have hjt : j < ts.length := by omega
    obtain ⟨wd, more, xs, ht, hw, hkey⟩ := hrows j ts[j] (by simp [hjt])
    obtain ⟨tits, rvt, plt, hzt⟩ := I2.tuple (sqT_ext e2 ht)
    obtain ⟨wits, rvw, plw, hzw⟩ := I2.list (sqL_ext e2 hw)
    have hlw := rvw.length
    have hlt := rvt.length
    have hli := rv.length
    obtain ⟨u1, hu1, ru1⟩ := rv.get (i := j) (x := .ref ts[j]) (by rw [List.getElem?_map]; simp [hjt])
    obtain rfl : u1 = Value.ref ts[j] := ru1
    obtain ⟨u2, hu2, ru2⟩ := rvt.get (i := 0) (x := .ref wd) rfl
    obtain rfl : u2 = Value.ref wd := ru2
    rw [hkey, hlw]
    refine lam_call (s := { s2 with heap := h0, toks := tk0 }) (k0 _ _ hf) ?_ (by show X.A.depth < recursionLimit; omega) (I2.nolimit.keeps k0) hcl2 ?_ ((I2.mod.glob.keeps I2.bk).keeps k0) hmL ((hb1.keeps I2.bk).keeps k0) ((hb2 _ (by decide)).trans (by decide +kernel))
      (isList_keeps pl.isList k0) hu1 (plt.keeps k0) hu2 (isList_keeps plw.isList k0) (by omega) (by omega) (by omega)
    · obtain ⟨c3, oc, vs, t, z1, z2, z3, z4⟩ := NdefX.codeO_at I2.hok hco
      exact ⟨c3, oc, vs, t, z1, k0 _ _ z2, z3, z4⟩
    · obtain ⟨o, ho, hd⟩ := hcell
      exact ⟨o, k0 _ _ ho, hd⟩
  · have I3 : Inv X pins σ H2 { s2 with heap := h1 } := I2.kept (t' := s2.toks) k1
    have hl2 : (((List.range n).mergeSort fun i j => decide (key i ≤ key j)).map fun (j : Nat) => V.int (j : Int)).length ≤ sizeLine := by
      rw [List.length_map, List.length_mergeSort, List.length_range, sizeLine_eq]
      omega
    have I4 := I3.laid (a := h1.objs.size) (t' := tk) (h' := h') (o := .lst (((List.range n).mergeSort fun i j => decide (key i ≤ key j)).map fun (j : Nat) => V.int (j : Int))) k2 (Nat.le_refl _) ⟨hl2, out, cc, vals_of_each _ _ hE, hD⟩
    exact ⟨.ref h1.objs.size, _, I4, rfl, q _ H2 e2 T2 (I3.hok.fresh (Nat.le_refl _))⟩
theorem pe_sortLamK (K : PySem.W.Frag) {T : List (Addr × Str)} {i : Nat} {iter : Expr} {ti : TE} {c P : Addr} {k : Nat} {q1 kpos lpos pos p0 p1 p2 p3 p4 p5 p6 p7 p8 : Pos} (hg : Gl X "sorted") (hm : X.mg "sorted" = none) (hmL : X.mg "len" = none) (hi : PE X iter ti)
    (hN : X.N[i]? = some ("standings" : Str)) (hcl : X.env.scope.names.lookup ("standings" : Str) = some .cell) (TB : TabB X.base X.mg c P) (hcode : X.env.code = .ref c) (hmT : (P, X.env.qual ++ "<lambda>") ∈ T) (hu : ∀ p ∈ T, p.1 = P → p.2 = X.env.qual ++ "<lambda>") (hr : Room k X.A) (hK : X.K = K := by rfl)
    (he : backTo pos (starEach [iter] X.env) = (false, eval iter X.env) :: backTo pos (starEach [] X.env) := by rfl) (hpl : (backTo pos (starEach [iter] X.env)).any (·.1) = false := by rfl) :
    PE X (.Call (.Name "sorted" q1) [iter] [⟨some "key", .Lambda (lamArgs ("number" : Str) p0) (lamBody ("number" : Str) ("standings" : Str) p1 p2 p3 p4 p5 p6 p7 p8) (lamScope ("number" : Str) ("standings" : Str)) lpos, kpos⟩] pos) (tSortLam T K i ti) :=
  hK ▸ pe_sortLam hg hm hmL hi hN hcl TB hcode hmT hu hr he hpl
end
end QL
end

section
set_option Elab.async false
set_option linter.all false
set_option maxRecDepth 100000
/-! words, ways, standings in the abstract heap; what is kept -/
namespace QB
open PySem PySem.Spec PyProof.Rows L2 LamX

/-! ### text facts as data -/
/-- a def of the text: where it stands, how it binds -/
structure DefAt (K : PySem.W.Frag) (x qual : Str) (st : Stmt) (ps : List Str) : Type where
  a : Addr
  fd : FuncData
  F : Fun K x qual st a fd
  b : Binds K fd ps []
/-- .. a def of the module, by its name -/
structure TopAt (K : PySem.W.Frag) (mg : Str → Option Value) (x : Str) (st : Stmt) (ps : List Str) : Type extends DefAt K x x st ps where
  mg : mg x = some (.ref a)

section
variable {X : Cx}
theorem pe_gc {x : Str} {v : V} {pos : Pos} (hg : Gl X x) (h : ∃ u, X.mg x = some u ∧ RelV v u) (hd : (x == ("__debug__" : Str)) = false := by decide) : PE X (.Name x pos) (tC v) := by
  obtain ⟨u, hm, r⟩ := h
  exact pe_glob hg hm r hd
end
theorem bo_isinstance : bootBuiltins "isinstance" = some (.builtin "isinstance") := by decide +kernel
theorem bo_abs : bootBuiltins "abs" = some (.builtin "abs") := by decide +kernel
theorem bo_max : bootBuiltins "max" = some (.builtin "max") := by decide +kernel
theorem bo_min : bootBuiltins "min" = some (.builtin "min") := by decide +kernel
theorem bo_sum : bootBuiltins "sum" = some (.builtin "sum") := by decide +kernel
theorem bo_all : bootBuiltins "all" = some (.builtin "all") := by decide +kernel
theorem bo_any : bootBuiltins "any" = some (.builtin "any") := by decide +kernel
theorem bo_len : bootBuiltins "len" = some (.builtin "len") := by decide +kernel
theorem bo_sorted : bootBuiltins "sorted" = some (.builtin "sorted") := by decide +kernel
theorem bo_list : bootBuiltins "list" = some (.type "list") := by decide +kernel
theorem bo_tuple : bootBuiltins "tuple" = some (.type "tuple") := by decide +kernel
theorem bo_int : bootBuiltins "int" = some (.type "int") := by decide +kernel
theorem bo_str : bootBuiltins "str" = some (.type "str") := by decide +kernel
theorem bo_bool : bootBuiltins "bool" = some (.type "bool") := by decide +kernel
theorem bo_range : bootBuiltins "range" = some (.type "range") := by decide +kernel
theorem bo_enumerate : bootBuiltins "enumerate" = some (.type "enumerate") := by decide +kernel
theorem bo_zip : bootBuiltins "zip" = some (.type "zip") := by decide +kernel
theorem bo_dict : bootBuiltins "dict" = some (.type "dict") := by decide +kernel
theorem bo_set : bootBuiltins "set" = some (.type "set") := by decide +kernel
theorem hu64 {A : Around} {k : Nat} (hr : Room k A) : A.units + 64 < cLine := hr.units

/-! ### rules with the written part named -/
section
variable {X : Cx} (K : PySem.W.Frag)
theorem ix_listK (h : X.K = K := by rfl) : IxR X (rIxL K) := h ▸ ix_list
theorem ix_tupK (h : X.K = K := by rfl) : IxR X (rIxT K) := h ▸ ix_tup
def rLen (K : PySem.W.Frag) : List V → Hp → VK → Prop := fun xs H Q => ∃ p ys, xs = [.ref p] ∧ (SqL K H p ys ∨ SqT K H p ys) ∧ Q (.int ys.length) H
theorem call_lenK (h : X.K = K := by rfl) : CallR X (.builtin "len") (rLen K) := h ▸ call_len_seq
def rListOf (K : PySem.W.Frag) : List V → Hp → VK → Prop := fun xs H Q => ∃ p ys, xs = [.ref p] ∧ (SqL K H p ys ∨ SqT K H p ys) ∧ ∀ l, H l = none → Q (.ref l) (upd H l (.lst ys))
theorem call_listK (h : X.K = K := by rfl) : CallR X (.type "list") (rListOf K) := h ▸ call_list_of
def rTupOf (K : PySem.W.Frag) : List V → Hp → VK → Prop := fun xs H Q => ∃ p ys, xs = [.ref p] ∧ ((SqL K H p ys ∧ ∀ l, H l = none → Q (.ref l) (upd H l (.tup ys))) ∨ (SqT K H p ys ∧ Q (.ref p) H))
theorem call_tupleK (h : X.K = K := by rfl) : CallR X (.type "tuple") (rTupOf K) := h ▸ call_tuple_of
theorem call_isiK (h : X.K = K := by rfl) : CallR X (.builtin "isinstance") (rIsi K) := h ▸ call_isi
theorem cr_allK (hc : X.calm = true) (h : X.K = K := by rfl) : CallR X (.builtin "all") (rAll K) := h ▸ cr_all hc
theorem cr_anyK (hc : X.calm = true) (h : X.K = K := by rfl) : CallR X (.builtin "any") (rAny K) := h ▸ cr_any hc
theorem cr_maxK (hc : X.calm = true) (h : X.K = K := by rfl) : CallR X (.builtin "max") (rMax K) := h ▸ cr_max hc
theorem mt_indexK (h : X.K = K := by rfl) : MtR X "list.index" (rIndex K) := h ▸ mt_index
theorem op_inK (h : X.K = K := by rfl) : OpR X (compareOp .In) (rIn K false) := h ▸ op_in_seq
theorem op_notInK (h : X.K = K := by rfl) : OpR X (compareOp .NotIn) (rIn K true) := h ▸ op_notIn_seq
theorem op_eqDK (hu : X.A.units + 64 < cLine) (h : X.K = K := by rfl) : OpR X (compareOp .Eq) (rEqD K) := h ▸ op_eqD hu
theorem op_neDK (hu : X.A.units + 64 < cLine) (h : X.K = K := by rfl) : OpR X (compareOp .NotEq) (rNeD K) := h ▸ op_neD hu
theorem sl_listK (h : X.K = K := by rfl) : SlR X (rSlL K) := h ▸ sl_list
theorem pi_listK {tg l : Expr} {tl : TE} (he : PE X l tl) (h : X.K = K := by rfl) : PI X tg l (iList K tl) := h ▸ pi_list he
theorem pe_fldK {e : Expr} {ta : TE} {f : Str} {pos : Pos} (he : PE X e ta) (hb : attributeBase e f X.env (eval e X.env) = eval e X.env) (h : X.K = K := by rfl) : PE X (.Attribute e f pos) (tFld K ta f) := h ▸ pe_fld he hb
theorem pe_bmK {o e : Expr} {es : List Expr} {to : TE} {t : TA} {name : Str} {apos cpos : Pos} {T id : String} {r : V → List V → Hp → VK → Prop} (pa : PlainAttrs T) (slot : Slot T name id)
    (hty : typeOf (.builtin id) = pure (.type "method_descriptor")) (hm : MtR X id r) (ho : PE X o to) (ha : PA X (e :: es) t) (h : X.K = K := by rfl) (hbase : attributeBase o name X.env (eval o X.env) = eval o X.env := by rfl)
    (hfew : ((backTo cpos (starEach (e :: es) X.env)).all (fun x => !x.1) && (backToKw cpos (keywordEach [] X.env)).all (fun x => x.1.isSome) && decide ((e :: es).length + ([] : List Keyword).length + (if ([] : List Keyword).isEmpty then 0 else 1) < 30)) = true := by rfl)
    (hline : (apos.endLine == cpos.line) = true := by rfl) (hs : starEach (e :: es) X.env = (false, eval e X.env) :: starEach es X.env := by rfl) (hp : (backTo cpos (starEach es X.env)).any (·.1) = false := by rfl) :
    PE X (.Call (.Attribute o name apos) (e :: es) [] cpos) (tBM K T r to t) := h ▸ pe_bm pa slot hty hm ho ha hbase hfew hline hs hp
theorem pe_bm0K {o : Expr} {to : TE} {name : Str} {apos cpos : Pos} {T id : String} {r : V → List V → Hp → VK → Prop} (pa : PlainAttrs T) (slot : Slot T name id)
    (hty : typeOf (.builtin id) = pure (.type "method_descriptor")) (hm : MtR X id r) (ho : PE X o to) (h : X.K = K := by rfl) (hbase : attributeBase o name X.env (eval o X.env) = eval o X.env := by rfl)
    (hline : (apos.endLine == cpos.line) = true := by rfl) : PE X (.Call (.Attribute o name apos) [] [] cpos) (tBM0 K T r to) := h ▸ pe_bm0 pa slot hty hm ho hbase hline
theorem pi_enumK {e : Expr} {ta : TA} {p pos tpos : Pos} {elts : List Expr} {kk : Nat} (hg : Gl X "enumerate") (hm : X.mg "enumerate" = none) (ha : PA X [e] ta) (h : X.K = K := by rfl) (hs : starEach [e] X.env = [(false, eval e X.env)] := by rfl) :
    PI X (.Tuple elts kk tpos) (.Call (.Name "enumerate" p) [e] [] pos) (iEnum K ta) := h ▸ pi_enum hg hm ha hs
theorem pi_zipK {e e2 : Expr} {ta : TA} {p pos tpos : Pos} {elts : List Expr} {kk : Nat} (hg : Gl X "zip") (hm : X.mg "zip" = none) (ha : PA X [e, e2] ta) (h : X.K = K := by rfl)
    (hs : starEach [e, e2] X.env = (false, eval e X.env) :: starEach [e2] X.env := by rfl) (hpl : (backTo pos (starEach [e2] X.env)).any (·.1) = false := by rfl) :
    PI X (.Tuple elts kk tpos) (.Call (.Name "zip" p) [e, e2] [] pos) (iZip K ta) := h ▸ pi_zip hg hm ha hs hpl
end

/-! ### what stays: all but the tables of code objects, which grow -/
def Ext (T : List (Addr × Str)) (H H' : Hp) : Prop := ExtN H H' ∧ (Tabs T H → Tabs T H')
section
variable {T : List (Addr × Str)} {H H' H'' : Hp} {p : Addr} {o : HO} {K : PySem.W.Frag}
theorem Ext.refl : Ext T H H := ⟨ExtN.refl H, fun t => t⟩
theorem Ext.trans (a : Ext T H H') (b : Ext T H' H'') : Ext T H H'' := ⟨a.1.trans b.1, fun t => b.2 (a.2 t)⟩
theorem Ext.of (a : Same H H') : Ext T H H' := ⟨ExtN.of a, fun t => t.ext a⟩
theorem same_new (h : H p = none) : Same H (upd H p o) := fun b u e => by
  rw [upd_ne (ne_of_none e h)]
  exact e
theorem Same.new (a : Same H H') (h : H' p = none) : Same H (upd H' p o) := fun b u e => by
  have e' := a b u e
  rw [upd_ne (ne_of_none e' h)]
  exact e'
/-- an object that was not there at H may change -/
theorem Same.mut (a : Same H H') (h : H p = none) : Same H (upd H' p o) := fun b u e => by
  rw [upd_ne (ne_of_none e h)]
  exact a b u e
theorem Ext.new (h : H p = none) : Ext T H (upd H p o) := .of (same_new h)
theorem Ext.get {u : HO} (a : Ext T H H') (h : H p = some u) (n : ∀ ps, u ≠ .tbl ps := by intro _ z; cases z) : H' p = some u := a.1 _ _ h n
theorem Ext.lst {xs : List V} (a : Ext T H H') (h : H p = some (.lst xs)) : H' p = some (.lst xs) := a.1 _ _ h fun _ z => nomatch z
theorem Ext.tup {xs : List V} (a : Ext T H H') (h : H p = some (.tup xs)) : H' p = some (.tup xs) := a.1 _ _ h fun _ z => nomatch z
/-- not there, but for a table -/
def Fresh (H : Hp) (p : Addr) : Prop := ∀ o, H p = some o → ∃ ps, o = .tbl ps
theorem Fresh.of (h : H p = none) : Fresh H p := fun o e => by
  rw [h] at e
  cases e
theorem Ext.fresh (a : Ext T H H') (h : Fresh H' p) : Fresh H p := fun o e => by
  by_cases hu : ∃ ps, o = .tbl ps
  · exact hu
  · exact h o (a.1 _ _ e fun ps z => hu ⟨ps, z⟩)
theorem Ext.free (a : Ext T H H') (h : H' p = none) : Fresh H p := a.fresh (.of h)
theorem Fresh.ne {q : Addr} {u : HO} (f : Fresh H p) (h : H q = some u) (n : ∀ ps, u ≠ .tbl ps := by intro _ z; cases z) : q ≠ p := fun e => by
  rw [e] at h
  obtain ⟨ps, z⟩ := f _ h
  exact n ps z
/-- what may be written without harm to the tables -/
def Plain : HO → Prop
  | .lst _ => True
  | .ins _ _ _ => True
  | .dK _ => True
  | _ => False
theorem Plain.tbl {o : HO} (h : Plain o) : ∀ ps, o ≠ .tbl ps := fun ps z => by
  rw [z] at h
  exact h
theorem Plain.code {o : HO} (h : Plain o) (c : Addr) (q : Str) : o ≠ CodeO c q := fun z => by
  rw [z] at h
  exact h
theorem tabs_mut {u : HO} (t : Tabs T H) (h : H p = some u) (hu : Plain u) : Tabs T (upd H p o) := fun q hq => by
  obtain ⟨ps, h1, h2, h3⟩ := t q hq
  refine ⟨ps, by rw [upd_ne (ne_of h1 h (hu.tbl ps).symm)]; exact h1, h2, fun pos cv hc => ?_⟩
  obtain ⟨c, e1, e2⟩ := h3 pos cv hc
  exact ⟨c, e1, by rw [upd_ne (ne_of e2 h (hu.code c _).symm)]; exact e2⟩
theorem Ext.mut {u : HO} (a : Ext T H H') (f : Fresh H p) (h : H' p = some u) (hu : Plain u := by trivial) : Ext T H (upd H' p o) :=
  ⟨fun b x e n => by
    rw [upd_ne (f.ne e n)]
    exact a.1 _ _ e n, fun t => tabs_mut (a.2 t) h hu⟩
theorem Ext.new' (a : Ext T H H') (h : H' p = none) : Ext T H (upd H' p o) := a.trans (.new h)
theorem Ext.sqL {a : Addr} {xs : List V} (e : Ext T H H') (h : SqL K H a xs) : SqL K H' a xs := QL.sqL_ext e.1 h
theorem Ext.sqT {a : Addr} {xs : List V} (e : Ext T H H') (h : SqT K H a xs) : SqT K H' a xs := QL.sqT_ext e.1 h
end

/-! ### words, ways, standings -/
abbrev Word := List Str
abbrev Ways := List (Option Nat)
abbrev Std := Word × Ways
abbrev Form := List Std
def vS (w : Word) : List V := w.map V.str
def vW : Option Nat → V
  | none => .non
  | some n => .int (n : Int)
def vWs (ws : Ways) : List V := ws.map vW
section
variable (H : Hp)
def WordAt (a : Addr) (w : Word) : Prop := H a = some (.lst (vS w))
def WaysAt (a : Addr) (w : Ways) : Prop := H a = some (.lst (vWs w))
def StdAt (t : Addr) (s : Std) : Prop := ∃ a b, H t = some (.tup [.ref a, .ref b]) ∧ WordAt H a s.1 ∧ WaysAt H b s.2
def FormAt (p : Addr) (F : Form) : Prop := ∃ ts : List Addr, H p = some (.lst (ts.map V.ref)) ∧ Paired (StdAt H) ts F
end
section
variable {T : List (Addr × Str)} {K : PySem.W.Frag} {H H' : Hp} {a p : Addr} {w : Word} {ws : Ways} {F : Form} {s : Std}
theorem Ext.word (e : Ext T H H') (h : WordAt H a w) : WordAt H' a w := e.lst h
theorem Ext.ways (e : Ext T H H') (h : WaysAt H a ws) : WaysAt H' a ws := e.lst h
theorem Ext.std (e : Ext T H H') (h : StdAt H a s) : StdAt H' a s := by
  obtain ⟨x, y, h1, h2, h3⟩ := h
  exact ⟨x, y, e.tup h1, e.word h2, e.ways h3⟩
theorem Ext.form (e : Ext T H H') (h : FormAt H p F) : FormAt H' p F := by
  obtain ⟨ts, h1, h2⟩ := h
  exact ⟨ts, e.lst h1, L2.Paired.mapP h2 fun t s h => e.std h⟩
theorem Same.word (e : Same H H') (h : WordAt H a w) : WordAt H' a w := e _ _ h
theorem Same.ways (e : Same H H') (h : WaysAt H a ws) : WaysAt H' a ws := e _ _ h
theorem Same.std (e : Same H H') (h : StdAt H a s) : StdAt H' a s := (Ext.of (T := []) e).std h
theorem Same.form (e : Same H H') (h : FormAt H p F) : FormAt H' p F := (Ext.of (T := []) e).form h
theorem paired_get {α β : Type} {R : α → β → Prop} : ∀ {l : List α} {m : List β} {i : Nat} {b : β}, Paired R l m → m[i]? = some b → ∃ a, l[i]? = some a ∧ R a b
  | _, _, _, _, .nil, e => by simp at e
  | _, _, 0, _, .cons h t, e => by
    simp at e
    subst e
    exact ⟨_, rfl, h⟩
  | _, _, i + 1, _, .cons h t, e => by
    obtain ⟨a, h1, h2⟩ := paired_get (i := i) t (by simpa using e)
    exact ⟨a, by simpa using h1, h2⟩
theorem paired_get' {α β : Type} {R : α → β → Prop} : ∀ {l : List α} {m : List β} {i : Nat} {a : α}, Paired R l m → l[i]? = some a → ∃ b, m[i]? = some b ∧ R a b
  | _, _, _, _, .nil, e => by simp at e
  | _, _, 0, _, .cons h t, e => by
    simp at e
    subst e
    exact ⟨_, rfl, h⟩
  | _, _, i + 1, _, .cons h t, e => by
    obtain ⟨a, h1, h2⟩ := paired_get' (i := i) t (by simpa using e)
    exact ⟨a, by simpa using h1, h2⟩
/-- the k-th standing: its tuple, its lists -/
theorem FormAt.at {k : Nat} (h : FormAt H p F) (e : F[k]? = some s) : ∃ (vs : List V) (t a b : Addr), H p = some (.lst vs) ∧ vs.length = F.length ∧ vs[k]? = some (.ref t) ∧ H t = some (.tup [.ref a, .ref b]) ∧ WordAt H a s.1 ∧ WaysAt H b s.2 := by
  obtain ⟨ts, h1, h2⟩ := h
  obtain ⟨t, ht, x, y, h3, h4, h5⟩ := paired_get h2 e
  exact ⟨_, t, x, y, h1, by rw [List.length_map, Paired.length h2], by rw [List.getElem?_map, ht]; rfl, h3, h4, h5⟩
theorem FormAt.lst (h : FormAt H p F) : ∃ vs : List V, H p = some (.lst vs) ∧ vs.length = F.length := by
  obtain ⟨ts, h1, h2⟩ := h
  exact ⟨_, h1, by rw [List.length_map, Paired.length h2]⟩
theorem vS_get {k : Nat} {x : Str} (h : w[k]? = some x) : (vS w)[k]? = some (.str x) := by
  unfold vS
  rw [List.getElem?_map, h]
  rfl
theorem vWs_get {k : Nat} {x : Option Nat} (h : ws[k]? = some x) : (vWs ws)[k]? = some (vW x) := by
  unfold vWs
  rw [List.getElem?_map, h]
  rfl
theorem vS_len : (vS w).length = w.length := List.length_map _
theorem vWs_len : (vWs ws).length = ws.length := List.length_map _
theorem vS_flat : (vS w).all flatV = true := by
  rw [List.all_eq_true]
  intro x hx
  obtain ⟨s, _, rfl⟩ := List.mem_map.mp hx
  rfl
theorem eqV_str (x y : Str) : eqV (.str x) (.str y) = decide (x = y) := by
  by_cases h : x = y
  · subst h
    simp [eqV]
  · simp [eqV, h]
theorem inV_word (x : Str) : inV (.str x) (vS w) = decide (x ∈ w) := by
  unfold inV vS
  induction w with
  | nil => rfl
  | cons y w ih =>
    rw [List.map_cons, List.any_cons, ih, eqV_str]
    by_cases h : y = x
    · subst h
      simp
    · simp [h, Ne.symm h]
theorem vW_is (x : Option Nat) : decide (vW x = .non) = x.isNone := by
  cases x <;> rfl
theorem vS_append (v w : Word) : vS v ++ vS w = vS (v ++ w) := (List.map_append ..).symm
theorem cut_drop (xs : List V) (k : Nat) : cutV xs (some (k : Int)) none = xs.drop k := by
  unfold cutV
  rw [HT.sIx_nat, HT.sIx_none]
  by_cases h : k ≤ xs.length
  · rw [Nat.min_eq_left h, List.take_of_length_le (by rw [List.length_drop]; exact Nat.le_refl _)]
  · rw [Nat.min_eq_right (by omega), List.drop_eq_nil_of_le (Nat.le_refl _), List.drop_eq_nil_of_le (by omega), List.take_nil]
theorem cut_take (xs : List V) (k : Nat) : cutV xs none (some (k : Int)) = xs.take k := by
  unfold cutV
  rw [HT.sIx_nat, HT.sIx_none, List.drop_zero, Nat.sub_zero]
  by_cases h : k ≤ xs.length
  · rw [Nat.min_eq_left h]
  · rw [Nat.min_eq_right (by omega), List.take_of_length_le (Nat.le_refl _), List.take_of_length_le (by omega)]
theorem vS_drop (w : Word) (k : Nat) : (vS w).drop k = vS (w.drop k) := List.map_drop.symm
theorem vS_take (w : Word) (k : Nat) : (vS w).take k = vS (w.take k) := List.map_take.symm
theorem idxOf_min {tags : Word} {t : Str} : ∀ {m : Nat}, m < tags.idxOf t → ∀ {x}, tags[m]? = some x → x ≠ t := by
  induction tags with
  | nil => intro m h x e; simp at e
  | cons y tags ih =>
    intro m h x e z
    subst z
    rw [List.idxOf_cons] at h
    by_cases hy : y == x
    · rw [hy] at h
      simp at h
    · rw [Bool.not_eq_true] at hy
      rw [hy] at h
      simp at h
      cases m with
      | zero =>
        simp at e
        subst e
        simp at hy
      | succ m => exact ih (m := m) (by omega) (by simpa using e) rfl
/-- tags.index(tag), there -/
theorem index_word {tags : Word} {t : Str} {Q : VK} (h : WordAt H a tags) (ht : t ∈ tags) (q : Q (.int (tags.idxOf t : Nat)) H) : rIndex K (.ref a) [.str t] H Q := by
  have hlt : tags.idxOf t < tags.length := List.idxOf_lt_length_of_mem ht
  refine ⟨a, vS tags, .str t, tags.idxOf t, .str t, rfl, rfl, SqL.of h, rfl, vS_flat, vS_get ?_, by rw [eqV_str]; simp, fun m z hm hz => ?_, q⟩
  · rw [List.getElem?_eq_getElem hlt, List.getElem_idxOf]
  · have hm' : m < tags.length := Nat.lt_trans hm hlt
    have e : tags[m]? = some tags[m] := by simp [hm']
    rw [vS_get e] at hz
    cases hz
    rw [eqV_str]
    exact decide_eq_false (idxOf_min hm e)

/-! ### comprehensions whose elements leave all as it was -/
theorem sz_le {n : Nat} (h : n ≤ 100000) : n ≤ sizeLine := Nat.le_trans h (by decide)
theorem sz_lt {n : Nat} (h : n < 100000) : n < sizeLine := Nat.lt_of_lt_of_le h (by decide)
theorem lc_filter {J : It} {n : Nat} {G : Hp → Prop} {Y : Nat → Hp → V → Hp → Prop} (w : Walk J n G Y) {g : TG} {tt : TT} {te : TE} {vs : List Nat} {σ : L2.St} {H1 : Hp} {D : Addr} {Qd : Hp → Prop} (hD : H1 D = none) (hn : n ≤ 100000)
    (hG : ∀ H, Same H1 H → G H) (f : Nat → V) (p : Nat → Bool)
    (hs : ∀ (i : Nat) (x : V) (H H' : Hp) (k : VK) (N : Hp → Prop), i < n → Same H1 H → Y i H x H' → (p i = true → ∀ H4, Same H H4 → k (f i) H4) → (p i = false → ∀ H4, Same H H4 → N H4) →
      g x (wipe σ vs) H' fun σ2 H2 => wipe σ2 vs = wipe σ vs ∧ tt σ2 H2 fun b H3 => if b = true then te σ2 H3 k else N H3)
    (hd : ∀ H, Same H1 H → H D = some (.lst (((List.range n).filter p).map f)) → Qd H) :
    ∃ W : Nat → Nat → Hp → Prop, (∃ m, W 0 m (upd H1 D (.lst []))) ∧ ∀ i m H, W i m H →
      (J.stop i H ∧ Qd H) ∨ (J.go i H ∧ ∃ Nx : Hp → Prop, (∀ H', Nx H' → ∃ m', m' < m ∧ W (i + 1) m' H') ∧ ∀ x H', J.yld i H x H' → g x (wipe σ vs) H' fun σ2 H2 => wipe σ2 vs = wipe σ vs ∧ tt σ2 H2 fun b H3 =>
        if b = true then te σ2 H3 fun y H4 => ∃ acc, H4 D = some (.lst acc) ∧ acc.length < sizeLine ∧ Nx (upd H4 D (.lst (acc ++ [y]))) else Nx H3) := by
  refine lc_it w (fun i H => Same H1 H ∧ H D = some (.lst (((List.range i).filter p).map f))) ⟨Same.mut (Same.refl H1) hD, upd_same⟩ (fun i H _ h => hG H h.1) (fun i x H H' hi h y => ?_) fun H h => hd H h.1 h.2
  obtain ⟨s1, e⟩ := h
  refine hs i x H H' _ _ hi s1 y (fun hp H4 s4 => ⟨_, s4 _ _ e, ?_, Same.mut (s1.trans s4) hD, ?_⟩) (fun hp H4 s4 => ⟨s1.trans s4, ?_⟩)
  · have h1 := List.length_filter_le p (List.range i)
    rw [List.length_range] at h1
    rw [List.length_map]
    exact sz_lt (by omega)
  · rw [upd_same, List.range_succ, List.filter_append, List.map_append, List.filter_cons, if_pos hp]
    rfl
  · rw [s4 _ _ e, List.range_succ, List.filter_append, List.map_append, List.filter_cons, if_neg (by rw [hp]; decide)]
    simp
theorem lc_map {J : It} {n : Nat} {G : Hp → Prop} {Y : Nat → Hp → V → Hp → Prop} (w : Walk J n G Y) {g : TG} {te : TE} {vs : List Nat} {σ : L2.St} {H1 : Hp} {D : Addr} {Qd : Hp → Prop} (hD : H1 D = none) (hn : n ≤ 100000)
    (hG : ∀ H, Same H1 H → G H) (f : Nat → V)
    (hs : ∀ (i : Nat) (x : V) (H H' : Hp) (k : VK), i < n → Same H1 H → Y i H x H' → (∀ H4, Same H H4 → k (f i) H4) →
      g x (wipe σ vs) H' fun σ2 H2 => wipe σ2 vs = wipe σ vs ∧ te σ2 H2 k)
    (hd : ∀ H, Same H1 H → H D = some (.lst ((List.range n).map f)) → Qd H) :
    ∃ W : Nat → Nat → Hp → Prop, (∃ m, W 0 m (upd H1 D (.lst []))) ∧ ∀ i m H, W i m H →
      (J.stop i H ∧ Qd H) ∨ (J.go i H ∧ ∃ Nx : Hp → Prop, (∀ H', Nx H' → ∃ m', m' < m ∧ W (i + 1) m' H') ∧ ∀ x H', J.yld i H x H' → g x (wipe σ vs) H' fun σ2 H2 => wipe σ2 vs = wipe σ vs ∧ tYes σ2 H2 fun b H3 =>
        if b = true then te σ2 H3 fun y H4 => ∃ acc, H4 D = some (.lst acc) ∧ acc.length < sizeLine ∧ Nx (upd H4 D (.lst (acc ++ [y]))) else Nx H3) := by
  refine lc_it w (fun i H => Same H1 H ∧ H D = some (.lst ((List.range i).map f))) ⟨Same.mut (Same.refl H1) hD, upd_same⟩ (fun i H _ h => hG H h.1) (fun i x H H' hi h y => ?_) fun H h => hd H h.1 h.2
  obtain ⟨s1, e⟩ := h
  have q := hs i x H H' (fun y H4 => ∃ acc, H4 D = some (.lst acc) ∧ acc.length < sizeLine ∧ (Same H1 (upd H4 D (.lst (acc ++ [y]))) ∧ (upd H4 D (.lst (acc ++ [y]))) D = some (.lst ((List.range (i + 1)).map f)))) hi s1 y
    fun H4 s4 => ⟨_, s4 _ _ e, by rw [List.length_map, List.length_range]; exact sz_lt (by omega), Same.mut (s1.trans s4) hD, by rw [upd_same, List.range_succ, List.map_append]; rfl⟩
  exact q
/-- a list by its places -/
theorem range_map_get {α : Type} (f : Nat → V) (l : List α) (h : α → V) (e : ∀ (i : Nat) (x : α), l[i]? = some x → f i = h x) : (List.range l.length).map f = l.map h := by
  refine List.ext_getElem? fun i => ?_
  rw [List.getElem?_map, List.getElem?_map]
  by_cases hi : i < l.length
  · rw [List.getElem?_range hi, List.getElem?_eq_getElem hi]
    exact congrArg some (e i _ (List.getElem?_eq_getElem hi))
  · rw [List.getElem?_eq_none (by rw [List.length_range]; omega), List.getElem?_eq_none (by omega)]
    rfl
theorem filter_range {α : Type} (q : α → Bool) (h : α → V) (p : Nat → Bool) (f : Nat → V) (l : List α) (e : ∀ (i : Nat) (x : α), l[i]? = some x → p i = q x ∧ f i = h x) : ((List.range l.length).filter p).map f = (l.filter q).map h := by
  have all : ∀ n, n ≤ l.length → ((List.range n).filter p).map f = ((l.take n).filter q).map h := by
    intro n
    induction n with
    | zero => intro _; rfl
    | succ n ih =>
      intro hn
      have ha : l[n]? = some (l[n]'(by omega)) := List.getElem?_eq_getElem (by omega)
      obtain ⟨e1, e2⟩ := e n _ ha
      rw [List.range_succ, List.filter_append, List.map_append, List.take_succ, ha, List.filter_append, List.map_append, ih (by omega), List.filter_cons, e1]
      by_cases hq : q (l[n]'(by omega)) = true
      · rw [if_pos hq]
        simp [hq, e2]
      · rw [if_neg hq]
        simp [hq]
  have := all l.length (Nat.le_refl _)
  rwa [List.take_length] at this

/-! ### what loops give -/
theorem walk_enumW : Walk (Ite K a) w.length (fun H => WordAt H a w) (fun i H v H' => ∃ (t : Addr) (x : Str), w[i]? = some x ∧ H t = none ∧ v = .ref t ∧ H' = upd H t (.tup [.int (i : Nat), .str x])) := by
  have e := walk_enum (K := K) (a := a) (xs := vS w)
  rw [vS_len] at e
  refine e.mono (fun H h => SqL.of h) fun i H v H' hi _ y => ?_
  obtain ⟨t, x, z, h1, h2, h3, h4, h5⟩ := y
  cases h4
  have h5 : (vS w)[i]? = some z := h5
  have hw : w[i]? = some w[i] := by simp [hi]
  rw [vS_get hw] at h5
  cases h5
  exact ⟨t, _, hw, h2, h1, h3⟩
theorem walk_listW : Walk (Itl K a) w.length (fun H => WordAt H a w) (fun i H v H' => ∃ x : Str, w[i]? = some x ∧ v = .str x ∧ H' = H) := by
  have e := walk_list (K := K) (a := a) (xs := vS w)
  rw [vS_len] at e
  refine e.mono (fun H h => SqL.of h) fun i H v H' hi _ y => ?_
  obtain ⟨h1, h2⟩ := y
  have hw : w[i]? = some w[i] := by simp [hi]
  rw [vS_get hw] at h2
  cases h2
  exact ⟨_, hw, rfl, h1⟩
theorem walk_listWs : Walk (Itl K a) ws.length (fun H => WaysAt H a ws) (fun i H v H' => ∃ x : Option Nat, ws[i]? = some x ∧ v = vW x ∧ H' = H) := by
  have e := walk_list (K := K) (a := a) (xs := vWs ws)
  rw [vWs_len] at e
  refine e.mono (fun H h => SqL.of h) fun i H v H' hi _ y => ?_
  obtain ⟨h1, h2⟩ := y
  have hw : ws[i]? = some ws[i] := by simp [hi]
  rw [vWs_get hw] at h2
  cases h2
  exact ⟨_, hw, rfl, h1⟩
/-- a form's standings, the heap as it was -/
theorem walk_listF : Walk (Itl K p) F.length (fun H => FormAt H p F) (fun i H v H' => ∃ (s : Std) (t a b : Addr), F[i]? = some s ∧ v = .ref t ∧ H' = H ∧ H t = some (.tup [.ref a, .ref b]) ∧ WordAt H a s.1 ∧ WaysAt H b s.2) := by
  refine ⟨fun i H hi h => ?_, fun H h => ?_, fun i H v H' hi h y => ?_⟩
  · obtain ⟨vs, t, a, b, h1, h2, h3, _⟩ := FormAt.at h (show F[i]? = some F[i] by simp [hi])
    exact ⟨vs, _, SqL.of h1, h3⟩
  · obtain ⟨vs, h1, h2⟩ := FormAt.lst h
    exact ⟨_, SqL.of h1, by rw [h2]; exact Nat.le_refl _⟩
  · have e : F[i]? = some F[i] := by simp [hi]
    obtain ⟨vs, t, a, b, h1, h2, h3, h4, h5, h6⟩ := FormAt.at h e
    obtain ⟨y1, y2⟩ := y
    have := y2 vs (SqL.of h1)
    rw [h3] at this
    cases this
    exact ⟨_, t, a, b, e, rfl, y1, h4, h5, h6⟩
end

/-! ### a form of one's own: new lists throughout, no list twice -/
abbrev Tri := Addr × Addr × Addr
def inner (L : List Tri) : List Addr := L.flatMap fun x => [x.2.1, x.2.2]
structure NewL (H0 H : Hp) (L : List Tri) (F : Form) : Prop where
  at_ : Paired (fun (x : Tri) (s : Std) => H x.1 = some (.tup [.ref x.2.1, .ref x.2.2]) ∧ WordAt H x.2.1 s.1 ∧ WaysAt H x.2.2 s.2) L F
  new : ∀ x ∈ L, Fresh H0 x.1 ∧ Fresh H0 x.2.1 ∧ Fresh H0 x.2.2
  nd : (inner L).Nodup
structure NewF (H0 H : Hp) (p : Addr) (L : List Tri) (F : Form) : Prop where
  lst : H p = some (.lst (L.map fun x => V.ref x.1))
  all : NewL H0 H L F
  new : Fresh H0 p
  out : p ∉ inner L
section
variable {T : List (Addr × Str)} {H0 H H' : Hp} {L : List Tri} {F : Form} {p t a b : Addr} {s : Std}
theorem NewL.nil : NewL H0 H [] [] := ⟨.nil, (fun _ h => nomatch h), List.nodup_nil⟩
theorem NewL.ext (n : NewL H0 H L F) (e : Ext T H H') : NewL H0 H' L F :=
  ⟨L2.Paired.mapP n.at_ fun _ _ h => ⟨e.tup h.1, e.word h.2.1, e.ways h.2.2⟩, n.new, n.nd⟩
theorem NewL.same (n : NewL H0 H L F) (e : Same H H') : NewL H0 H' L F := n.ext (Ext.of (T := []) e)
theorem NewF.ext (n : NewF H0 H p L F) (e : Ext T H H') : NewF H0 H' p L F := ⟨e.lst n.lst, n.all.ext e, n.new, n.out⟩
theorem NewF.same (n : NewF H0 H p L F) (e : Same H H') : NewF H0 H' p L F := n.ext (Ext.of (T := []) e)
theorem NewL.old {H1 : Hp} (n : NewL H H' L F) (e : Ext T H1 H) : NewL H1 H' L F := ⟨n.at_, fun x hx => ⟨e.fresh (n.new x hx).1, e.fresh (n.new x hx).2.1, e.fresh (n.new x hx).2.2⟩, n.nd⟩
theorem NewF.old {H1 : Hp} (n : NewF H H' p L F) (e : Ext T H1 H) : NewF H1 H' p L F := ⟨n.lst, n.all.old e, e.fresh n.new, n.out⟩
theorem mem_inner {q : Addr} (h : q ∈ inner L) : ∃ x ∈ L, q = x.2.1 ∨ q = x.2.2 := by
  obtain ⟨x, hx, hq⟩ := List.mem_flatMap.mp h
  refine ⟨x, hx, ?_⟩
  simpa using hq
theorem NewL.there (n : NewL H0 H L F) {q : Addr} (h : q ∈ inner L) : ∃ xs, H q = some (.lst xs) := by
  obtain ⟨x, hx, hq⟩ := mem_inner h
  obtain ⟨i, hi, e⟩ := List.mem_iff_getElem.mp hx
  obtain ⟨s, _, h1, h2, h3⟩ := paired_get' n.at_ (show L[i]? = some x by rw [List.getElem?_eq_getElem hi, e])
  rcases hq with rfl | rfl
  · exact ⟨_, h2⟩
  · exact ⟨_, h3⟩
theorem inner_append (L M : List Tri) : inner (L ++ M) = inner L ++ inner M := List.flatMap_append
theorem NewL.snoc (n : NewL H0 H L F) (e : Same H H') (ha : H a = none) (hb : H b = none) (hab : a ≠ b) (h1 : H' t = some (.tup [.ref a, .ref b])) (h2 : WordAt H' a s.1) (h3 : WaysAt H' b s.2) (f1 : Fresh H0 t) (f2 : Fresh H0 a) (f3 : Fresh H0 b) :
    NewL H0 H' (L ++ [(t, a, b)]) (F ++ [s]) := by
  refine ⟨Paired.snoc (n.same e).at_ ⟨h1, h2, h3⟩, fun x hx => ?_, ?_⟩
  · rcases List.mem_append.mp hx with hx | hx
    · exact n.new x hx
    · rw [List.mem_singleton.mp hx]
      exact ⟨f1, f2, f3⟩
  · rw [inner_append, List.nodup_append]
    refine ⟨n.nd, ?_, fun x hx y hy => ?_⟩
    · show [a, b].Nodup
      simp [hab]
    · obtain ⟨xs, hxs⟩ := n.there hx
      have hy : y = a ∨ y = b := by simpa [inner] using hy
      rcases hy with rfl | rfl
      · exact ne_of_none hxs ha
      · exact ne_of_none hxs hb
theorem NewL.form (n : NewL H0 H L F) (h : H p = some (.lst (L.map fun x => V.ref x.1))) : FormAt H p F := by
  refine ⟨L.map (·.1), by rw [List.map_map]; exact h, ?_⟩
  have e := n.at_
  clear h n
  induction e with
  | nil => exact .nil
  | cons h _ ih => exact .cons ⟨_, _, h.1, h.2.1, h.2.2⟩ ih
theorem NewF.form (n : NewF H0 H p L F) : FormAt H p F := n.all.form n.lst
theorem NewL.len (n : NewL H0 H L F) : L.length = F.length := Paired.length n.at_
theorem NewF.mk' (n : NewL H0 H L F) (h : H p = some (.lst (L.map fun x => V.ref x.1))) (f : Fresh H0 p) (o : p ∉ inner L) : NewF H0 H p L F := ⟨h, n, f, o⟩
/-- its k-th standing -/
theorem NewL.get (n : NewL H0 H L F) {k : Nat} (e : F[k]? = some s) : ∃ x : Tri, L[k]? = some x ∧ H x.1 = some (.tup [.ref x.2.1, .ref x.2.2]) ∧ WordAt H x.2.1 s.1 ∧ WaysAt H x.2.2 s.2 := paired_get n.at_ e
/-- another list is written -/
theorem paired_mem {α β : Type} {R S : α → β → Prop} : ∀ {l : List α} {m : List β}, Paired R l m → (∀ a b, a ∈ l → R a b → S a b) → Paired S l m
  | _, _, .nil, _ => .nil
  | _, _, .cons h t, f => .cons (f _ _ List.mem_cons_self h) (paired_mem t fun a b ha hr => f a b (List.mem_cons_of_mem _ ha) hr)
theorem NewL.upd {xs ys : List V} (n : NewL H0 H L F) (h : H p = some (.lst xs)) (o : p ∉ inner L) : NewL H0 (upd H p (.lst ys)) L F := by
  refine ⟨paired_mem n.at_ fun x s hx r => ?_, n.new, n.nd⟩
  have h1 : x.2.1 ≠ p := fun e => o (List.mem_flatMap.mpr ⟨x, hx, by simp [e]⟩)
  have h2 : x.2.2 ≠ p := fun e => o (List.mem_flatMap.mpr ⟨x, hx, by simp [e]⟩)
  exact ⟨(upd_ne (ne_of r.1 h (fun z => nomatch z))).trans r.1, Eq.trans (upd_ne h1) r.2.1, Eq.trans (upd_ne h2) r.2.2⟩
theorem NewL.updD {kvs : List (Key × V)} {u : HO} (n : NewL H0 H L F) (h : H p = some (.dK kvs)) : NewL H0 (L2.upd H p u) L F := by
  refine ⟨paired_mem n.at_ fun x s hx r => ?_, n.new, n.nd⟩
  exact ⟨(upd_ne (ne_of r.1 h (fun z => nomatch z))).trans r.1, Eq.trans (upd_ne (ne_of r.2.1 h (fun z => nomatch z))) r.2.1, Eq.trans (upd_ne (ne_of r.2.2 h (fun z => nomatch z))) r.2.2⟩
theorem not_inner_snoc (o : p ∉ inner L) (ha : p ≠ a) (hb : p ≠ b) : p ∉ inner (L ++ [(t, a, b)]) := by
  rw [inner_append]
  simp [inner] at o ⊢
  exact ⟨o, ha, hb⟩
/-- the ways of one standing are written anew -/
theorem NewL.setWays : ∀ {L : List Tri} {F : Form} {k : Nat} {x : Tri} {s : Std} {ws : Ways}, NewL H0 H L F → L[k]? = some x → F[k]? = some s → NewL H0 (L2.upd H x.2.2 (.lst (vWs ws))) L (F.set k (s.1, ws))
  | [], _, k, _, _, _, _, e, _ => by simp at e
  | y :: L, [], k, _, _, _, _, _, e => by simp at e
  | y :: L, f :: F, 0, x, s, ws, n, e1, e2 => by
    simp at e1 e2
    subst e1 e2
    obtain ⟨p, nw, nd⟩ := n
    cases p with
    | cons h t =>
      have nd' : (y.2.1 :: y.2.2 :: inner L).Nodup := nd
      rw [List.nodup_cons, List.nodup_cons] at nd'
      obtain ⟨d1, d2, d3⟩ := nd'
      have rest := NewL.upd (p := y.2.2) (ys := vWs ws) ⟨t, fun z hz => nw z (List.mem_cons_of_mem _ hz), d3⟩ h.2.2 d2
      refine ⟨?_, nw, nd⟩
      rw [List.set_cons_zero]
      exact .cons ⟨(upd_ne (ne_of h.1 h.2.2 (fun z => nomatch z))).trans h.1, Eq.trans (upd_ne fun z => d1 (by rw [z]; exact List.mem_cons_self)) h.2.1, upd_same⟩ rest.at_
  | y :: L, f :: F, k + 1, x, s, ws, n, e1, e2 => by
    rw [List.getElem?_cons_succ] at e1 e2
    obtain ⟨p, nw, nd⟩ := n
    cases p with
    | cons h t =>
      have nd' : (y.2.1 :: y.2.2 :: inner L).Nodup := nd
      rw [List.nodup_cons, List.nodup_cons] at nd'
      obtain ⟨d1, d2, d3⟩ := nd'
      have n' : NewL H0 H L F := ⟨t, fun z hz => nw z (List.mem_cons_of_mem _ hz), d3⟩
      have rest := NewL.setWays (ws := ws) n' e1 e2
      obtain ⟨z, hz, hz1, hz2, hz3⟩ := n'.get e2
      rw [e1] at hz
      cases hz
      have hx : x.2.2 ∈ inner L := List.mem_flatMap.mpr ⟨x, List.mem_of_getElem? e1, by simp⟩
      refine ⟨?_, nw, nd⟩
      rw [List.set_cons_succ]
      exact .cons ⟨(upd_ne (ne_of h.1 hz3 (fun z => nomatch z))).trans h.1, Eq.trans (upd_ne fun z => d1 (by rw [z]; exact List.mem_cons_of_mem _ hx)) h.2.1, Eq.trans (upd_ne fun z => d2 (by rw [z]; exact hx)) h.2.2⟩ rest.at_
end

/-! ### words compared -/
def txts (w : Word) : List PyData := w.map .str
theorem dpAll_word (K : PySem.W.Frag) (H : Hp) : ∀ w : Word, DpAll K H (vS w) (txts w)
  | [] => .nil
  | _ :: w => .cons (.str _) (dpAll_word K H w)
theorem dp_word {K : PySem.W.Frag} {H : Hp} {a : Addr} {w : Word} (h : WordAt H a w) : Dp K H (.ref a) (.list (txts w)) := .lst (SqL.of h) (dpAll_word K H w)
theorem eqvAll_txts : ∀ v w : Word, PyData.eqvAll (txts v) (txts w) = decide (v = w)
  | [], [] => rfl
  | [], _ :: _ => rfl
  | _ :: _, [] => rfl
  | x :: v, y :: w => by
    show (x == y && PyData.eqvAll (txts v) (txts w)) = _
    rw [eqvAll_txts v w]
    by_cases h : x = y
    · subst h
      by_cases h2 : v = w <;> simp [h2]
    · simp [h]
theorem layAll_txts : ∀ w : Word, (∀ t ∈ w, PyData.strOk t = true) → PyData.canLayAll0 (txts w) = true
  | [], _ => rfl
  | x :: w, h => by
    show (PyData.strOk x && PyData.canLayAll0 (txts w)) = true
    rw [h x List.mem_cons_self, layAll_txts w fun t ht => h t (List.mem_cons_of_mem _ ht)]
    rfl
theorem depthAll_txts : ∀ w : Word, PyData.depthAll (txts w) = 0
  | [] => rfl
  | x :: w => by
    show max 0 (PyData.depthAll (txts w)) = 0
    rw [depthAll_txts w]
    rfl
theorem shaped_word {w : Word} (h : ∀ t ∈ w, PyData.strOk t = true) : SeqAt.shaped (.list (txts w)) = true := by
  unfold SeqAt.shaped
  rw [Bool.and_eq_true]
  refine ⟨layAll_txts w h, decide_eq_true ?_⟩
  show PyData.depthAll (txts w) + 1 ≤ 64
  rw [depthAll_txts]
  decide
theorem eq_words {K : PySem.W.Frag} {H : Hp} {a b : Addr} {v w : Word} {Q : VK} (hv : WordAt H a v) (hw : WordAt H b w) (ov : ∀ t ∈ v, PyData.strOk t = true) (ow : ∀ t ∈ w, PyData.strOk t = true) (q : Q (.bl (decide (v = w))) H) : rEqD K (.ref a) (.ref b) H Q :=
  ⟨_, _, dp_word hv, dp_word hw, shaped_word ov, shaped_word ow, by
    show Q (.bl (PyData.eqvAll (txts v) (txts w))) H
    rw [eqvAll_txts]
    exact q⟩
theorem ne_words {K : PySem.W.Frag} {H : Hp} {a b : Addr} {v w : Word} {Q : VK} (hv : WordAt H a v) (hw : WordAt H b w) (ov : ∀ t ∈ v, PyData.strOk t = true) (ow : ∀ t ∈ w, PyData.strOk t = true) (q : Q (.bl (!decide (v = w))) H) : rNeD K (.ref a) (.ref b) H Q :=
  ⟨_, _, dp_word hv, dp_word hw, shaped_word ov, shaped_word ow, by
    show Q (.bl (!PyData.eqvAll (txts v) (txts w))) H
    rw [eqvAll_txts]
    exact q⟩

/-! ### a def whose code object is told -/
structure FunC (K : PySem.W.Frag) (x qual : Str) (st : Stmt) (f : Addr) (fd : FuncData) (c : Addr) : Prop where
  ex : ∃ (oc : Value) (od : Option Addr) (kV doc pm : Value) (an : Option Addr) (ct : Value) (osl : Array (Option Value)),
    fd = PySem.W.fnOf x qual (defArgs st) (defBody st) (defScope st) .none kV doc pm an (.ref c) ct ∧ K.lookup f = some ⟨oc, od, .func fd, osl⟩ ∧ PySem.W.codeIn K (.ref c) qual = true
theorem FunC.ok {P : Program} {w : World} {K : PySem.W.Frag} {mg : Str → Option Value} {base : Heap} {x qual : Str} {st : Stmt} {f c : Addr} {fd : FuncData} {N ps : List Str} {k : Nat} {sp : Sp} (F : FunC K x qual st f fd c) (S : FnScope N ps (defScope st)) (len : ∀ vs H Q E, sp vs H Q E → vs.length = ps.length)
    (hbody : ∀ (A : Around) (outer : List Env) (s : Shared) (H : Hp) (vs : List V) (Q : VK) (E : XK), Room k (A.deeper (envOfC qual (defScope st) s.heap.objs.size f (.ref c))) → sp vs H Q E →
      ∃ t, PSs (cxOf CX0 P w K mg base N qual (defScope st) f (.ref c) A outer s H E).nox (defBody st) t ∧ t { nx := fun _ H' => Q .non H', rt := Q } (L2.start N vs) H) : FnOk P w K mg base CX0 (k + 1) f fd ps sp := by
  obtain ⟨oc, od, kV, doc, pm, an, ct, osl, rfl, lk, hcd⟩ := F.ex
  exact fn_of lk hcd S len fun A outer s H vs Q E hr hsp => by
    obtain ⟨t, h, q⟩ := hbody A outer s H vs Q E hr hsp
    exact ⟨t, h.nox, q⟩
end QB
end

section
set_option linter.all false
set_option autoImplicit false
/-! mirrors: plain functions over words and standings -/
namespace QM
open PySem QB

def ixOf (tags : List Str) (t : Str) : Nat := tags.idxOf t
/-- the way of a standing for a tag -/
def way (tags : List Str) (s : Std) (t : Str) : Option Nat := (s.2[ixOf tags t]?).join
def wayAt (tags : List Str) (F : Form) (at_ : Nat) (t : Str) : Option Nat := (F[at_]?).bind fun s => way tags s t
def walkFrom (tags : List Str) (F : Form) : Nat → Nat → Word → Nat × Nat
  | at_, k, [] => (at_, k)
  | at_, k, t :: w => match wayAt tags F at_ t with
    | none => (at_, k)
    | some b => walkFrom tags F b (k + 1) w
def walk (tags : List Str) (F : Form) (w : Word) : Nat × Nat := walkFrom tags F 0 0 w
def wordOf (F : Form) (k : Nat) : Word := ((F[k]?).map (·.1)).getD []
def make (tags : List Str) (F : Form) (w : Word) : Word := wordOf F (walk tags F w).1 ++ w.drop (walk tags F w).2

structure Good (tags : List Str) (F : Form) : Prop where
  pos : 0 < F.length
  len : ∀ s ∈ F, s.2.length = tags.length
  to : ∀ s ∈ F, ∀ n, some n ∈ s.2 → n < F.length
  small : F.length ≤ 5000
theorem Good.way_lt {tags : List Str} {F : Form} (g : Good tags F) {s : Std} (hs : s ∈ F) {k n : Nat} (h : s.2[k]? = some (some n)) : n < F.length := g.to s hs n (List.mem_of_getElem? h)
theorem mem_of {F : Form} {k : Nat} {s : Std} (h : F[k]? = some s) : s ∈ F := List.mem_of_getElem? h
theorem Good.ways {tags : List Str} {F : Form} (g : Good tags F) {k : Nat} {s : Std} (h : F[k]? = some s) : s.2.length = tags.length := g.len s (mem_of h)
/-- the way of a standing for one of the tags -/
theorem Good.way {tags : List Str} {F : Form} (g : Good tags F) {k : Nat} {s : Std} {t : Str} (h : F[k]? = some s) (ht : t ∈ tags) : s.2[tags.idxOf t]? = some (way tags s t) := by
  have hlt : tags.idxOf t < s.2.length := by rw [g.ways h]; exact List.idxOf_lt_length_of_mem ht
  unfold QM.way ixOf
  rw [List.getElem?_eq_getElem hlt]
  rfl
theorem wayAt_of {tags : List Str} {F : Form} {k : Nat} {s : Std} {t : Str} (h : F[k]? = some s) : wayAt tags F k t = way tags s t := by
  unfold wayAt
  rw [h]
  rfl
theorem Good.wayLt {tags : List Str} {F : Form} (g : Good tags F) {k n : Nat} {s : Std} {t : Str} (h : F[k]? = some s) (ht : t ∈ tags) (e : QM.way tags s t = some n) : n < F.length := by
  have q := g.way h ht
  rw [e] at q
  exact g.way_lt (mem_of h) q
theorem wordOf_of {F : Form} {k : Nat} {s : Std} (h : F[k]? = some s) : wordOf F k = s.1 := by
  unfold wordOf
  rw [h]
  rfl
theorem walkFrom_lt {tags : List Str} {F : Form} (g : Good tags F) : ∀ (w : Word) (at_ k : Nat), at_ < F.length → (∀ t ∈ w, t ∈ tags) → (walkFrom tags F at_ k w).1 < F.length ∧ k ≤ (walkFrom tags F at_ k w).2 ∧ (walkFrom tags F at_ k w).2 ≤ k + w.length
  | [], at_, k, h, _ => ⟨h, Nat.le_refl _, Nat.le_refl _⟩
  | t :: w, at_, k, h, ht => by
    unfold walkFrom
    cases e : wayAt tags F at_ t with
    | none => exact ⟨h, Nat.le_refl _, Nat.le_add_right _ _⟩
    | some b =>
      have hF : F[at_]? = some F[at_] := by simp [h]
      have hb : b < F.length := g.wayLt hF (ht t List.mem_cons_self) (by rw [← wayAt_of hF]; exact e)
      obtain ⟨h1, h2, h3⟩ := walkFrom_lt g w b (k + 1) hb fun x hx => ht x (List.mem_cons_of_mem _ hx)
      show (walkFrom tags F b (k + 1) w).1 < F.length ∧ k ≤ (walkFrom tags F b (k + 1) w).2 ∧ (walkFrom tags F b (k + 1) w).2 ≤ k + (t :: w).length
      rw [List.length_cons]
      exact ⟨h1, by omega, by omega⟩
theorem walk_lt {tags : List Str} {F : Form} (g : Good tags F) {w : Word} (h : ∀ t ∈ w, t ∈ tags) : (walk tags F w).1 < F.length ∧ (walk tags F w).2 ≤ w.length := by
  obtain ⟨h1, _, h3⟩ := walkFrom_lt g w 0 0 g.pos h
  exact ⟨h1, by rw [Nat.zero_add] at h3; exact h3⟩

/-! ### classes of standings -/
open L2 in
def wayNum (cs : List Nat) : Option Nat → NestedKey
  | none => .num (-1)
  | some n => .num ((cs.getD n 0 : Nat) : Int)
def partKey (cs : List Nat) (p : Nat × Std) : NestedKey := .tup [.num (p.1 : Int), .tup (p.2.2.map (wayNum cs))]
def partKeys (cs : List Nat) (F : Form) : List NestedKey := (cs.zip F).map (partKey cs)
def part (cs : List Nat) (F : Form) : List Nat := QD.numb (partKeys cs F)
def wordKey (s : Std) : NestedKey := .tup (s.1.map .text)
def wordKeys (F : Form) : List NestedKey := F.map wordKey
def maxOf (cs : List Nat) : Nat := cs.foldl max 0
def alikeLoop (F : Form) : Nat → Nat → List Nat → List Nat
  | 0, _, cs => cs
  | f + 1, many, cs => if many ≤ maxOf cs then alikeLoop F f (maxOf cs + 1) (part cs F) else cs
def alike (F : Form) : List Nat := alikeLoop F (F.length + 1) 0 (QD.numb (wordKeys F))

theorem partKeys_len {cs : List Nat} {F : Form} (h : cs.length = F.length) : (partKeys cs F).length = F.length := by
  unfold partKeys
  rw [List.length_map, List.length_zip, h, Nat.min_self]
theorem part_len {cs : List Nat} {F : Form} (h : cs.length = F.length) : (part cs F).length = F.length := by
  unfold part
  rw [QD.numb_len, partKeys_len h]
theorem maxOf_le : ∀ (cs : List Nat) (a b : Nat), cs.foldl max a ≤ b ↔ a ≤ b ∧ ∀ x ∈ cs, x ≤ b
  | [], a, b => by simp
  | c :: cs, a, b => by
    rw [List.foldl_cons, maxOf_le cs (max a c) b]
    constructor
    · rintro ⟨h1, h2⟩
      refine ⟨by omega, fun x hx => ?_⟩
      rcases List.mem_cons.mp hx with rfl | hx
      · omega
      · exact h2 x hx
    · rintro ⟨h1, h2⟩
      have := h2 c List.mem_cons_self
      exact ⟨by omega, fun x hx => h2 x (List.mem_cons_of_mem _ hx)⟩
theorem le_maxOf {cs : List Nat} {x : Nat} (h : x ∈ cs) : x ≤ maxOf cs := ((maxOf_le cs 0 _).mp (Nat.le_refl _)).2 x h
theorem maxOf_eq {cs : List Nat} {m : Nat} (h : m ∈ cs) (hm : ∀ x ∈ cs, x ≤ m) : maxOf cs = m :=
  Nat.le_antisymm ((maxOf_le cs 0 m).mpr ⟨Nat.zero_le _, hm⟩) (le_maxOf h)
theorem numb_lt {α : Type} [DecidableEq α] {ms : List α} {x : Nat} (h : x ∈ QD.numb ms) : x < (QD.seenOf ms).length := by
  obtain ⟨m, hm, rfl⟩ := List.mem_map.mp h
  exact List.idxOf_lt_length_of_mem ((QD.mem_seenOf ms m).mpr hm)
theorem numb_lt' {α : Type} [DecidableEq α] {ms : List α} {x : Nat} (h : x ∈ QD.numb ms) : x < ms.length := Nat.lt_of_lt_of_le (numb_lt h) (QD.seenOf_len ms)

/-! ### the order in which standings are met -/
def clsOf (cs : List Nat) (n : Nat) : Nat := cs.getD n 0
def visit (cs : List Nat) (met : List Nat) : Option Nat → List Nat
  | none => met
  | some n => if clsOf cs n ∈ met.map (clsOf cs) then met else met ++ [n]
def visitAll (cs : List Nat) (met : List Nat) (ws : Ways) : List Nat := ws.foldl (visit cs) met
def newWay (cs met : List Nat) (w : Option Nat) : Option Nat := w.map fun n => (met.map (clsOf cs)).idxOf (clsOf cs n)
def newStd (cs met : List Nat) (s : Std) : Std := (s.1, s.2.map (newWay cs met))
def stdOf (F : Form) (k : Nat) : Std := F.getD k ([], [])
def orderLoop (F : Form) (cs : List Nat) : Nat → List Nat → Form → Form
  | 0, _, told => told
  | f + 1, met, told => if told.length < met.length then
      orderLoop F cs f (visitAll cs met (stdOf F (met.getD told.length 0)).2) (told ++ [newStd cs (visitAll cs met (stdOf F (met.getD told.length 0)).2) (stdOf F (met.getD told.length 0))])
    else told
def inOrder (F : Form) (cs : List Nat) : Form := orderLoop F cs (F.length + 1) [0] []
theorem stdOf_get {F : Form} {k : Nat} (h : k < F.length) : F[k]? = some (stdOf F k) := by
  unfold stdOf
  rw [List.getD_eq_getElem?_getD, List.getElem?_eq_getElem h]
  rfl
theorem nodup_le : ∀ (n : Nat) (l : List Nat), l.Nodup → (∀ x ∈ l, x < n) → l.length ≤ n
  | 0, l, _, h => by
    cases l with
    | nil => exact Nat.le_refl _
    | cons x l => exact absurd (h x List.mem_cons_self) (Nat.not_lt_zero _)
  | n + 1, l, nd, h => by
    have h1 := nodup_le n (l.erase n) (nd.erase n) fun x hx => by
      have hx' := List.mem_of_mem_erase hx
      have h2 := h x hx'
      have h3 : x ≠ n := fun e => by
        rw [e] at hx
        exact nd.not_mem_erase hx
      omega
    have h4 : l.length ≤ (l.erase n).length + 1 := by
      rw [List.length_erase]
      split <;> omega
    omega
/-- what holds of the met ones -/
structure Met (F : Form) (cs met : List Nat) : Prop where
  nd : (met.map (clsOf cs)).Nodup
  lt : ∀ m ∈ met, m < F.length
theorem Met.len {F : Form} {cs met : List Nat} (h : Met F cs met) : met.length ≤ F.length :=
  nodup_le _ _ ((List.pairwise_map.mp h.nd).imp fun h e => h (congrArg _ e)) h.lt
theorem Met.visit {F : Form} {cs met : List Nat} (h : Met F cs met) {w : Option Nat} (hw : ∀ n, w = some n → n < F.length) : Met F cs (visit cs met w) := by
  cases w with
  | none => exact h
  | some n =>
    unfold QM.visit
    show Met F cs (if clsOf cs n ∈ met.map (clsOf cs) then met else met ++ [n])
    by_cases hm : clsOf cs n ∈ met.map (clsOf cs)
    · rw [if_pos hm]
      exact h
    · rw [if_neg hm]
      refine ⟨?_, fun m hm' => ?_⟩
      · rw [List.map_append, List.nodup_append]
        exact ⟨h.nd, by simp, fun a ha b hb => by rw [List.mem_singleton.mp hb]; exact fun e => hm (e ▸ ha)⟩
      · rcases List.mem_append.mp hm' with q | q
        · exact h.lt m q
        · rw [List.mem_singleton.mp q]
          exact hw n rfl
theorem visit_pre (cs met : List Nat) (w : Option Nat) : ∃ t, visit cs met w = met ++ t := by
  cases w with
  | none => exact ⟨[], by simp [visit]⟩
  | some n =>
    by_cases h : clsOf cs n ∈ met.map (clsOf cs)
    · exact ⟨[], by simp [visit, h]⟩
    · exact ⟨[n], by simp [visit, h]⟩
theorem visitAll_pre (cs : List Nat) : ∀ (ws : Ways) (met : List Nat), ∃ t, visitAll cs met ws = met ++ t
  | [], met => ⟨[], by simp [visitAll]⟩
  | w :: ws, met => by
    obtain ⟨t, e⟩ := visit_pre cs met w
    obtain ⟨t2, e2⟩ := visitAll_pre cs ws (visit cs met w)
    refine ⟨t ++ t2, ?_⟩
    show visitAll cs (visit cs met w) ws = _
    rw [e2, e, List.append_assoc]
theorem visit_has (cs met : List Nat) (n : Nat) : clsOf cs n ∈ (visit cs met (some n)).map (clsOf cs) := by
  by_cases h : clsOf cs n ∈ met.map (clsOf cs)
  · simpa [visit, h] using h
  · simp [visit, h]
theorem visitAll_has (cs : List Nat) : ∀ (ws : Ways) (met : List Nat) (n : Nat), some n ∈ ws → clsOf cs n ∈ (visitAll cs met ws).map (clsOf cs)
  | w :: ws, met, n, h => by
    rcases List.mem_cons.mp h with e | h
    · obtain ⟨t, e2⟩ := visitAll_pre cs ws (visit cs met w)
      show _ ∈ (visitAll cs (visit cs met w) ws).map _
      rw [e2, List.map_append]
      exact List.mem_append_left _ (by rw [← e]; exact visit_has cs met n)
    · exact visitAll_has cs ws (visit cs met w) n h
theorem Met.visitAll {F : Form} {cs : List Nat} : ∀ {ws : Ways} {met : List Nat}, Met F cs met → (∀ n, some n ∈ ws → n < F.length) → Met F cs (visitAll cs met ws)
  | [], _, h, _ => h
  | w :: ws, met, h, hw => Met.visitAll (ws := ws) (met := QM.visit cs met w) (h.visit fun n e => hw n (by rw [e]; exact List.mem_cons_self)) fun n hn => hw n (List.mem_cons_of_mem _ hn)

/-! ### needless ways -/
def isNeedless (F : Form) (S : List Bool) (word : Word) (t : Str) (n : Nat) : Bool := S.getD n false && decide ((stdOf F n).1 = word ++ [t])
def pruneWay (F : Form) (S : List Bool) (word : Word) (t : Str) : Option Nat → Option Nat
  | none => none
  | some n => if isNeedless F S word t n = true then none else some n
def pruneWays (tags : List Str) (F : Form) (S : List Bool) (s : Std) : Ways := (tags.zip s.2).map fun p => pruneWay F S s.1 p.1 p.2
def pruneStd (tags : List Str) (F : Form) (S : List Bool) (s : Std) : Std := (s.1, pruneWays tags F S s)
def needStep (tags : List Str) (F : Form) (st : Form × List Bool) (k : Nat) : Form × List Bool :=
  (st.1.set k (pruneStd tags F st.2 (stdOf st.1 k)), st.2.set k ((pruneWays tags F st.2 (stdOf st.1 k)).all Option.isNone))
def keyOf (F : Form) (k : Nat) : Int := -((stdOf F k).1.length : Int)
def byLen (F : Form) : List Nat := (List.range F.length).mergeSort fun i j => decide (keyOf F i ≤ keyOf F j)
def needFold (tags : List Str) (F : Form) (ks : List Nat) : Form × List Bool := ks.foldl (needStep tags F) (F, List.replicate F.length false)
def needless (tags : List Str) (F : Form) : Form := (needFold tags F (byLen F)).1
def least (tags : List Str) (F : Form) : Form := inOrder (needless tags F) (alike (needless tags F))

theorem pruneWays_len {tags : List Str} {F : Form} {S : List Bool} {s : Std} (h : s.2.length = tags.length) : (pruneWays tags F S s).length = tags.length := by
  unfold pruneWays
  rw [List.length_map, List.length_zip, h, Nat.min_self]
theorem pruneWays_get {tags : List Str} {F : Form} {S : List Bool} {s : Std} {k : Nat} {t : Str} {w : Option Nat} (ht : tags[k]? = some t) (hw : s.2[k]? = some w) : (pruneWays tags F S s)[k]? = some (pruneWay F S s.1 t w) := by
  have ez : (tags.zip s.2)[k]? = some (t, w) := by
    rw [List.getElem?_zip_eq_some]
    exact ⟨ht, hw⟩
  unfold pruneWays
  rw [List.getElem?_map, ez]
  rfl
theorem pruneWay_some {F : Form} {S : List Bool} {word : Word} {t : Str} {w : Option Nat} {n : Nat} (h : pruneWay F S word t w = some n) : w = some n := by
  cases w with
  | none => cases h
  | some m =>
    have h : (if isNeedless F S word t m = true then none else some m) = some n := h
    by_cases e : isNeedless F S word t m = true
    · rw [if_pos e] at h
      cases h
    · rw [if_neg e] at h
      exact h
theorem pruneWays_some {tags : List Str} {F : Form} {S : List Bool} {s : Std} {n : Nat} (h : some n ∈ pruneWays tags F S s) : some n ∈ s.2 := by
  obtain ⟨p, hp, e⟩ := List.mem_map.mp h
  rw [← pruneWay_some e]
  exact (List.of_mem_zip hp).2
/-- what stays through the steps -/
structure Pruned (tags : List Str) (F : Form) (st : Form × List Bool) : Prop where
  len : st.1.length = F.length
  lenS : st.2.length = F.length
  word : ∀ k s, st.1[k]? = some s → s.1 = (stdOf F k).1 ∧ s.2.length = (stdOf F k).2.length ∧ ∀ n, some n ∈ s.2 → some n ∈ (stdOf F k).2
theorem Pruned.start (tags : List Str) (F : Form) : Pruned tags F (F, List.replicate F.length false) := by
  refine ⟨rfl, List.length_replicate, fun k s h => ?_⟩
  have hk : k < F.length := (List.getElem?_eq_some_iff.mp h).1
  have h : F[k]? = some s := h
  rw [stdOf_get hk] at h
  cases h
  exact ⟨rfl, rfl, fun n h => h⟩
theorem Pruned.step {tags : List Str} {F : Form} {st : Form × List Bool} (p : Pruned tags F st) (g : Good tags F) {k : Nat} (hk : k < F.length) : Pruned tags F (needStep tags F st k) := by
  have h1 : st.1[k]? = some (stdOf st.1 k) := stdOf_get (by rw [p.len]; exact hk)
  obtain ⟨w1, w2, w3⟩ := p.word k _ h1
  have gl : (stdOf F k).2.length = tags.length := g.ways (stdOf_get hk)
  refine ⟨by show (st.1.set k _).length = _; rw [List.length_set, p.len], by show (st.2.set k _).length = _; rw [List.length_set, p.lenS], fun j s hj => ?_⟩
  have hj : (st.1.set k (pruneStd tags F st.2 (stdOf st.1 k)))[j]? = some s := hj
  by_cases e : k = j
  · subst e
    rw [List.getElem?_set_self (by rw [p.len]; exact hk)] at hj
    cases hj
    refine ⟨w1, ?_, fun n hn => w3 n (pruneWays_some hn)⟩
    show (pruneWays tags F st.2 (stdOf st.1 k)).length = _
    rw [pruneWays_len (by rw [w2, gl]), gl]
  · rw [List.getElem?_set_ne e] at hj
    exact p.word j s hj
theorem Pruned.fold {tags : List Str} {F : Form} (g : Good tags F) : ∀ (ks : List Nat) (st : Form × List Bool), Pruned tags F st → (∀ k ∈ ks, k < F.length) → Pruned tags F (ks.foldl (needStep tags F) st)
  | [], _, p, _ => p
  | k :: ks, st, p, h => Pruned.fold g ks (needStep tags F st k) (p.step g (h k List.mem_cons_self)) fun j hj => h j (List.mem_cons_of_mem _ hj)
theorem byLen_lt {F : Form} {k : Nat} (h : k ∈ byLen F) : k < F.length := by
  unfold byLen at h
  rw [List.mem_mergeSort] at h
  exact List.mem_range.mp h
theorem byLen_len (F : Form) : (byLen F).length = F.length := by
  unfold byLen
  rw [List.length_mergeSort, List.length_range]
theorem mix_get {α : Type} {P Q : List α} {j : Nat} (h : P.length = Q.length) (hj : j < Q.length) : (P.take j ++ Q.drop j)[j]? = Q[j]? := by
  rw [List.getElem?_append_right (by rw [List.length_take]; omega), List.length_take, Nat.min_eq_left (by omega), Nat.sub_self, List.getElem?_drop, Nat.add_zero]
theorem mix_set {α : Type} {P Q : List α} {j : Nat} {x : α} (h : P.length = Q.length) (hj : P[j]? = some x) : (P.take j ++ Q.drop j).set j x = P.take (j + 1) ++ Q.drop (j + 1) := by
  have hj' : j < P.length := (List.getElem?_eq_some_iff.mp hj).1
  rw [List.set_append_right _ _ (by rw [List.length_take]; omega), List.length_take, Nat.min_eq_left (by omega), Nat.sub_self, List.take_succ, hj, List.drop_eq_getElem_cons (by omega : j < Q.length), List.set_cons_zero]
  simp
theorem mix_same {α : Type} {P Q : List α} {j : Nat} {x : α} (h : P.length = Q.length) (hj : P[j]? = some x) (hq : Q[j]? = some x) : P.take j ++ Q.drop j = P.take (j + 1) ++ Q.drop (j + 1) := by
  rw [← mix_set h hj]
  have hl : (P.take j ++ Q.drop j)[j]? = some x := by
    rw [mix_get h (List.getElem?_eq_some_iff.mp hq).1]
    exact hq
  refine List.ext_getElem? fun i => ?_
  by_cases e : j = i
  · subst e
    rw [List.getElem?_set_self (List.getElem?_eq_some_iff.mp hl).1, hl]
  · rw [List.getElem?_set_ne e]
end QM
end

section
set_option Elab.async false
set_option linter.all false
set_option maxRecDepth 100000
/-! Qown: len and == by the class's own methods, with any answer. -/
namespace QO
open PySem PySem.Spec PyProof.Rows L2
section
variable {X : Cx} {CX : CXT} {k : Nat} {f C : Addr} {fd : FuncData} {ps : List Str} {sp : Sp} {E : XK}
theorem run_in {A : Around} {pins : List (Addr × Obj)} {σ : L2.St} {H : Hp} {s : Shared} {Q : VK} {us : List Value} {vs : List V} (sb : Sub X k A) (F : FnOk X.prog X.w X.K X.mg X.base CX k f fd ps sp) (hb : Binds X.K fd ps []) (hx : Passes CX X E)
    (I : Inv X pins σ H s) (r : Vals vs us) (h : sp vs H Q E) : wpAny (model X.prog X.w) A (call (.ref f) us) (EP X pins σ Q) X.xe s := by
  have hl : us.length = ps.length := by rw [← r.length]; exact F.len _ _ _ _ h
  have e0 : Env0 X.prog X.w X.K X.mg X.base A X.stack s H := by
    have e := I.env0
    exact ⟨by rw [sb.fr]; exact e.frames, e.mod, e.bs, e.bsz, e.funs, e.frf, e.hok, e.bare⟩
  refine wpAny_call (codeAny_mono (F.run A X.stack s H ⟨us, []⟩ us vs Q E sb.room e0 (by
    have := hb s us I.kIn (by simpa using hl)
    simpa using this) r h) fun r s' hq => ?_)
  cases r with
  | error e => exact hx pins σ H s e s' I hq
  | ok fl =>
    cases fl with
    | ret u => exact I.after hq
    | next => exact False.elim hq
    | brk => exact False.elim hq
    | cont => exact False.elim hq
/-- len(x) by an own __len__ -/
def rLenO (C : Addr) (sp : Sp) (E : XK) : List V → Hp → VK → Prop := fun xs H Q => ∃ a dx fs, xs = [.ref a] ∧ H a = some (.ins C dx fs) ∧ sp [.ref a] H (fun v H' => ∃ n : Nat, v = .int (n : Int) ∧ n < sizeLine ∧ Q v H') E
theorem call_lenO (F : FnOk X.prog X.w X.K X.mg X.base CX k f fd ps sp) (hm : Meth X.K C "__len__" f) (hr : Room (k + 1) X.A) (hb : Binds X.K fd ps []) (hx : Passes CX X E) : CallR X (.builtin "len") (rLenO C sp E) := by
  intro pins s σ H xs us Q I r h
  obtain ⟨a, dx, fs, rfl, ha, h⟩ := h
  obtain ⟨u, rfl, ru⟩ := vals1 r
  cases ru
  obtain ⟨mA, J, _⟩ := ins_get I.hok ha
  obtain ⟨od, J, _⟩ := J.look
  obtain ⟨m, hF⟩ := I.fr
  refine PySem.W.len_K hF I.ok.mod.kin J hm.at_ hm.fn ?_
  refine wpAny_mono (run_in (A := X.A.in1) (vs := [.ref a]) ⟨hr.in1, rfl⟩ F hb hx I (.cons rfl .nil) h) (fun v s' q => ?_) fun _ _ x => x
  obtain ⟨v', H', I', rv, n, rfl, hn, q⟩ := q
  obtain ⟨t, rfl⟩ := (show ∃ t, v = Value.int (n : Int) t from rv)
  have hs : sizeLine = 16777216 := sizeLine_eq
  exact ⟨⟨by omega, by omega⟩, .int (n : Int), H', I'.tok _, ⟨_, rfl⟩, q⟩
/-- x == y by an own __eq__ -/
def rEqO (K : PySem.W.Frag) (C : Addr) (sp : Sp) (E : XK) : R2 := fun x y H Q => ∃ a dx fs t, x = .ref a ∧ H a = some (.ins C dx fs) ∧ TyOf K H y t ∧ PySem.W.notFirst K C t = true ∧ sp [.ref a, y] H (fun v H' => ∃ b : Bool, v = .bl b ∧ Q v H') E
theorem looks_ty {pins : List (Addr × Obj)} {σ : L2.St} {H : Hp} {s : Shared} {x : V} {u t : Value} (I : Inv X pins σ H s) (rx : RelV x u) (ty : TyOf X.K H x t) : PySem.W.Looks (model X.prog X.w) s.heap (typeOf u) t := by
  have ob : ∀ {a : Addr} {o : Obj}, s.heap.get? a = some o → PySem.W.Looks (model X.prog X.w) s.heap (typeOf (.ref a)) o.cls := fun e => PySem.W.Looks.ld e |>.andThen (PySem.W.Looks.now)
  cases ty with
  | non => cases (show u = Value.none from rx); exact PySem.W.Looks.of_pure rfl
  | bl y => cases (show u = Value.bool y from rx); exact PySem.W.Looks.of_pure rfl
  | int i => obtain ⟨t, q⟩ := (show ∃ t, u = Value.int i t from rx); cases q; exact PySem.W.Looks.of_pure rfl
  | str y => obtain ⟨t, q⟩ := (show ∃ t, u = Value.str y t from rx); cases q; exact PySem.W.Looks.of_pure rfl
  | flt y => obtain ⟨t, q⟩ := (show ∃ t, u = Value.float y t from rx); cases q; exact PySem.W.Looks.of_pure rfl
  | @lst a xs ea =>
    cases (show u = Value.ref a from rx)
    obtain ⟨_, _, n, _, h1⟩ := (show ObjOk X.prog X.w H s.heap a (.lst xs) from I.hok a _ ea)
    exact ob h1
  | @frz a ob' xs ea =>
    cases (show u = Value.ref a from rx)
    obtain ⟨_, _, _, n, _, h1⟩ := (show ObjOk X.prog X.w H s.heap a (.frz ob' (.lst xs)) from I.hok a _ ea)
    exact ob h1
  | @tup a xs ea =>
    cases (show u = Value.ref a from rx)
    obtain ⟨_, _, _, o, h1, h2, _⟩ := (show ObjOk X.prog X.w H s.heap a (.tup xs) from I.hok a _ ea)
    rw [← h2]
    exact ob h1
  | @dK a kvs ea =>
    cases (show u = Value.ref a from rx)
    obtain ⟨_, _, vs, _, o, es, ep, h1, h2, _⟩ := (show ObjOk X.prog X.w H s.heap a (.dK kvs) from I.hok a _ ea)
    rw [← h2.1]
    exact ob h1
  | @dT a kvs ea =>
    cases (show u = Value.ref a from rx)
    obtain ⟨_, _, xs, _, o, es, ep, h1, h2, _⟩ := (show ObjOk X.prog X.w H s.heap a (.dT kvs) from I.hok a _ ea)
    rw [← h2.1]
    exact ob h1
  | @ins a C dx fs ea cl ha hn htk hm =>
    cases (show u = Value.ref a from rx)
    obtain ⟨mA, O, _⟩ := ins_get I.hok ea
    obtain ⟨od, J, _⟩ := O.look
    exact J.type
theorem op_eqO (F : FnOk X.prog X.w X.K X.mg X.base CX k f fd ps sp) (hm : Meth X.K C "__eq__" f) (hr : Room k X.A) (hb : Binds X.K fd ps []) (hx : Passes CX X E) : OpR X (compareOp .Eq) (rEqO X.K C sp E) := by
  intro pins s σ H x y v u Q I rx ry h
  obtain ⟨a, dx, fs, t, rfl, ha, ht, hn, h⟩ := h
  cases rx
  obtain ⟨mA, J, _⟩ := ins_get I.hok ha
  obtain ⟨od, J, _⟩ := J.look
  obtain ⟨m, hF⟩ := I.fr
  show wpAny (model X.prog X.w) X.A (richCompare .Eq _ u) (EP X pins σ Q) X.xe s
  refine PySem.W.cmp_K (op := .Eq) hr.units0 hF I.ok.mod.kin J (looks_ty I ry ht) hn hm.at_ hm.fn ?_
  refine wpAny_mono (run_in (A := X.A) (vs := [.ref a, y]) ⟨hr, rfl⟩ F hb hx I (.cons rfl (.cons ry .nil)) h) (fun v s' q => ?_) fun _ _ x => x
  obtain ⟨v', H', I', rv, b, rfl, q⟩ := q
  cases rv
  exact ⟨.bl b, H', I', rfl, q⟩
/-- x in y by an own __contains__ -/
def rInO (C : Addr) (sp : Sp) (E : XK) (neg : Bool) : R2 := fun x y H Q => ∃ a dx fs, y = .ref a ∧ H a = some (.ins C dx fs) ∧ sp [.ref a, x] H (fun v H' => ∃ b : Bool, v = .bl b ∧ Q (.bl (if neg then !b else b)) H') E
theorem op_inO (F : FnOk X.prog X.w X.K X.mg X.base CX k f fd ps sp) (hm : Meth X.K C "__contains__" f) (hr : Room k X.A) (hb : Binds X.K fd ps []) (hx : Passes CX X E) : OpR X (compareOp .In) (rInO C sp E false) := by
  intro pins s σ H x y v u Q I rx ry h
  obtain ⟨a, dx, fs, rfl, ha, h⟩ := h
  cases ry
  obtain ⟨mA, J, _⟩ := ins_get I.hok ha
  obtain ⟨od, J, _⟩ := J.look
  obtain ⟨m, hF⟩ := I.fr
  refine PySem.W.in_K hF I.ok.mod.kin J hm.at_ hm.fn ?_
  refine wpAny_mono (run_in (A := X.A) (vs := [.ref a, x]) ⟨hr, rfl⟩ F hb hx I (.cons rfl (.cons rx .nil)) h) (fun v' s' q => ?_) fun _ _ x => x
  obtain ⟨z, H', I', rv, b, rfl, q⟩ := q
  cases rv
  exact wpAny_truthy_bool ⟨.bl b, H', I', rfl, q⟩
theorem op_notInO (F : FnOk X.prog X.w X.K X.mg X.base CX k f fd ps sp) (hm : Meth X.K C "__contains__" f) (hr : Room k X.A) (hb : Binds X.K fd ps []) (hx : Passes CX X E) : OpR X (compareOp .NotIn) (rInO C sp E true) := by
  intro pins s σ H x y v u Q I rx ry h
  obtain ⟨a, dx, fs, rfl, ha, h⟩ := h
  cases ry
  obtain ⟨mA, J, _⟩ := ins_get I.hok ha
  obtain ⟨od, J, _⟩ := J.look
  obtain ⟨m, hF⟩ := I.fr
  refine PySem.W.notIn_K hF I.ok.mod.kin J hm.at_ hm.fn ?_
  refine wpAny_mono (run_in (A := X.A) (vs := [.ref a, x]) ⟨hr, rfl⟩ F hb hx I (.cons rfl (.cons rx .nil)) h) (fun v' s' q => ?_) fun _ _ x => x
  obtain ⟨z, H', I', rv, b, rfl, q⟩ := q
  cases rv
  exact wpAny_truthy_bool ⟨.bl (!b), H', I', rfl, q⟩
end
/-- text * 0, text * 1 -/
theorem op_mul_str {X : Cx} : OpR X (binaryOp .Mult) (fun x y H Q => ∃ z, x = .str z ∧ ((y = .int 0 ∧ Q (.str Str.empty) H) ∨ (y = .int 1 ∧ Q (.str z) H))) := by
  intro pins s σ H x y v u Q I rx ry h
  obtain ⟨z, rfl, h⟩ := h
  obtain ⟨t, rfl⟩ := (show ∃ t, v = Value.str z t from rx)
  rcases h with ⟨rfl, q⟩ | ⟨rfl, q⟩
  · obtain ⟨t', rfl⟩ := (show ∃ t, u = Value.int 0 t from ry)
    exact PySem.P.mul_str_none (by decide) (by decide) ⟨.str Str.empty, H, I.tok _, ⟨_, rfl⟩, q⟩
  · obtain ⟨t', rfl⟩ := (show ∃ t, u = Value.int 1 t from ry)
    refine PySem.P.mul_str (by decide) (fun _ e => by simp at e) (fun _ e => by simp at e) ?_
    rw [if_neg (by decide), if_pos (by simp)]
    exact ⟨.str z, H, I, ⟨_, rfl⟩, q⟩
/-- xs.count(y), flat things -/
def rCount (K : PySem.W.Frag) : V → List V → Hp → VK → Prop := fun x xs H Q => ∃ (a : Addr) (ys : List V) (y : V), x = .ref a ∧ xs = [y] ∧ SqL K H a ys ∧ flatV y = true ∧ ys.all flatV = true ∧ Q (.int ((ys.countP fun z => eqV z y : Nat) : Int)) H
theorem count_eqU {y : V} : ∀ {ys : List V} {us : List Value}, Vals ys us → ys.all flatV = true → us.countP (eqU y) = ys.countP fun z => eqV z y
  | _, _, .nil, _ => rfl
  | z :: ys, u :: us, .cons r t, h => by
    rw [List.all_cons, Bool.and_eq_true] at h
    rw [List.countP_cons, List.countP_cons, count_eqU t h.2, eqU_of r h.1]
theorem mt_countL {X : Cx} : MtR X "list.count" (rCount X.K) := by
  intro pins s σ H x xs v us Q I rx rxs h
  obtain ⟨a, ys, y, rfl, rfl, hs, fy, fys, q⟩ := h
  cases rx
  cases rxs with
  | cons ry rt =>
    rename_i uy ut
    cases rt
    obtain ⟨its, rv, ⟨⟨cls, dd, data, sl⟩, n, ho, hc, hdn, hd⟩, hlen⟩ := I.list hs
    simp only at hc hd
    subst hc hd
    refine call_meets PySem.F.slot_list_count ⟨_, ho, rfl⟩ PySem.F.entry_list_count (PySem.F.args_list_count_2 _ _)
      (SeqAt.list_countAt a its.toArray n dd sl uy (eqU y)) ⟨ho, fun u' hu' => mem_eqAt ry fy rv fys u' (by simpa using hu'), ?_⟩
    refine ⟨.int ((ys.countP fun z => eqV z y : Nat) : Int), H, I.tok _, ⟨s.toks, ?_⟩, q⟩
    show Value.int ((its.toArray.toList.countP (eqU y) : Nat) : Int) s.toks = _
    rw [show its.toArray.toList.countP (eqU y) = ys.countP fun z => eqV z y from count_eqU rv fys]
theorem mt_countK {X : Cx} (K : PySem.W.Frag) (h : X.K = K := by rfl) : MtR X "list.count" (rCount K) := h ▸ mt_countL
/-- what isinstance and == ask of an own class -/
structure OwnC (K : PySem.W.Frag) (C : Addr) : Prop where
  ha : PySem.W.findIn K (.ref C) "__class__" = some (some (.builtin "object.__class__"))
  hn : PySem.W.specialIn K (.builtin "object.__class__") "__get__" = some (some (.builtin "getset_descriptor.__get__"))
  htk : PySem.W.takesIn K (.builtin "object.__class__") = some true
  hm : PySem.W.mroIn K C (.type "object") = some true
  kL : PySem.W.kitOne K (.type "list") (.ref C) = some false
  kT : PySem.W.kitOne K (.type "tuple") (.ref C) = some false
  kS : PySem.W.kitOne K (.type "str") (.ref C) = some false
  kI : PySem.W.kitOne K (.type "int") (.ref C) = some false
  kB : PySem.W.kitOne K (.type "bool") (.ref C) = some false
  kN : PySem.W.kitOne K (.type "NoneType") (.ref C) = some false
  kD : PySem.W.kitOne K (.type "dict") (.ref C) = some false
  cL : PySem.W.kitOne K (.ref C) (.type "list") = some false
  cT : PySem.W.kitOne K (.ref C) (.type "tuple") = some false
  cS : PySem.W.kitOne K (.ref C) (.type "str") = some false
  cI : PySem.W.kitOne K (.ref C) (.type "int") = some false
  cB : PySem.W.kitOne K (.ref C) (.type "bool") = some false
  nL : PySem.W.notFirst K C (.type "list") = true
  nT : PySem.W.notFirst K C (.type "tuple") = true
  nS : PySem.W.notFirst K C (.type "str") = true
  nI : PySem.W.notFirst K C (.type "int") = true
  nB : PySem.W.notFirst K C (.type "bool") = true
  nN : PySem.W.notFirst K C (.type "NoneType") = true
  nD : PySem.W.notFirst K C (.type "dict") = true
theorem OwnC.self {K : PySem.W.Frag} {C : Addr} : PySem.W.kitOne K (.ref C) (.ref C) = some true := if_pos (by simp)
theorem OwnC.same {K : PySem.W.Frag} {C : Addr} : PySem.W.notFirst K C (.ref C) = true := by simp [PySem.W.notFirst]
theorem OwnC.ty {K : PySem.W.Frag} {C a dx : Addr} {H : Hp} {fs : List (Str × V)} (o : OwnC K C) (c : Cls K C) (e : H a = some (.ins C dx fs)) : TyOf K H (.ref a) (.ref C) := .ins e c o.ha o.hn o.htk o.hm
end QO
end

section
set_option Elab.async false
set_option linter.all false
set_option maxRecDepth 100000
/-! Qdata: == and != of lists within lists and tuples, by what they hold. -/
namespace QB
open PySem PySem.Spec PyProof.Rows L2
structure Enc {α : Type} [DecidableEq α] (D : α → PyData) (ok : α → Prop) (n : Nat) : Prop where
  eq : ∀ x y, PyData.eqv (D x) (D y) = decide (x = y)
  lay : ∀ x, ok x → PyData.canLay0 (D x) = true
  dep : ∀ x, PyData.depth (D x) ≤ n
section
variable {α β : Type} [DecidableEq α] [DecidableEq β] {D : α → PyData} {E : β → PyData} {ok : α → Prop} {ok2 : β → Prop} {n m : Nat} {K : PySem.W.Frag} {H : Hp}
theorem Enc.eqAll (e : Enc D ok n) : ∀ l k : List α, PyData.eqvAll (l.map D) (k.map D) = decide (l = k)
  | [], [] => by simp [PyData.eqvAll]
  | [], _ :: _ => by simp [PyData.eqvAll]
  | _ :: _, [] => by simp [PyData.eqvAll]
  | x :: l, y :: k => by
    rw [List.map_cons, List.map_cons, PyData.eqvAll, e.eq, e.eqAll l k]
    by_cases h : x = y
    · subst h
      by_cases h2 : l = k <;> simp [h2]
    · simp [h]
theorem Enc.layAll (e : Enc D ok n) : ∀ l : List α, (∀ x ∈ l, ok x) → PyData.canLayAll0 (l.map D) = true
  | [], _ => by simp [PyData.canLayAll0]
  | x :: l, h => by
    rw [List.map_cons, PyData.canLayAll0, e.lay x (h x List.mem_cons_self), e.layAll l fun y hy => h y (List.mem_cons_of_mem _ hy)]
    rfl
theorem Enc.depAll (e : Enc D ok n) : ∀ l : List α, PyData.depthAll (l.map D) ≤ n
  | [] => by simp [PyData.depthAll]
  | x :: l => by
    rw [List.map_cons, PyData.depthAll]
    exact Nat.max_le.mpr ⟨e.dep x, e.depAll l⟩
theorem Enc.list (e : Enc D ok n) : Enc (fun l : List α => PyData.list (l.map D)) (fun l => ∀ x ∈ l, ok x) (n + 1) :=
  ⟨fun l k => by rw [PyData.eqv]; exact e.eqAll l k, fun l h => by rw [PyData.canLay0]; exact e.layAll l h, fun l => by rw [PyData.depth]; exact Nat.succ_le_succ (e.depAll l)⟩
theorem Enc.mono (e : Enc D ok n) (h : n ≤ m) : Enc D ok m := ⟨e.eq, e.lay, fun x => Nat.le_trans (e.dep x) h⟩
theorem Enc.pair (e : Enc D ok n) (f : Enc E ok2 n) : Enc (fun p : α × β => PyData.tuple [D p.1, E p.2]) (fun p => ok p.1 ∧ ok2 p.2) (n + 1) := by
  refine ⟨fun p q => ?_, fun p h => ?_, fun p => ?_⟩
  · rw [PyData.eqv, PyData.eqvAll, PyData.eqvAll, PyData.eqvAll, e.eq, f.eq, Bool.and_true]
    obtain ⟨p1, p2⟩ := p
    obtain ⟨q1, q2⟩ := q
    by_cases h1 : p1 = q1 <;> by_cases h2 : p2 = q2 <;> simp [h1, h2]
  · rw [PyData.canLay0, PyData.canLayAll0, PyData.canLayAll0, PyData.canLayAll0, e.lay _ h.1, f.lay _ h.2]
    rfl
  · rw [PyData.depth, PyData.depthAll, PyData.depthAll, PyData.depthAll]
    have := e.dep p.1
    have := f.dep p.2
    omega
theorem Enc.two (e : Enc D ok n) (f : Enc E ok2 n) : Enc (fun p : α × β => PyData.list [D p.1, E p.2]) (fun p => ok p.1 ∧ ok2 p.2) (n + 1) := by
  refine ⟨fun p q => ?_, fun p h => ?_, fun p => ?_⟩
  · rw [PyData.eqv, PyData.eqvAll, PyData.eqvAll, PyData.eqvAll, e.eq, f.eq, Bool.and_true]
    obtain ⟨p1, p2⟩ := p
    obtain ⟨q1, q2⟩ := q
    by_cases h1 : p1 = q1 <;> by_cases h2 : p2 = q2 <;> simp [h1, h2]
  · rw [PyData.canLay0, PyData.canLayAll0, PyData.canLayAll0, PyData.canLayAll0, e.lay _ h.1, f.lay _ h.2]
    rfl
  · rw [PyData.depth, PyData.depthAll, PyData.depthAll, PyData.depthAll]
    have := e.dep p.1
    have := f.dep p.2
    omega
theorem enc_str : Enc PyData.str (fun t => PyData.strOk t = true) 0 := ⟨fun x y => by
  rw [PyData.eqv]
  by_cases h : x = y <;> simp [h], fun x h => by rw [PyData.canLay0]; exact h, fun x => by simp [PyData.depth]⟩
theorem enc_int : Enc PyData.int (fun _ => True) 0 := ⟨fun x y => by
  rw [PyData.eqv]
  by_cases h : x = y <;> simp [h], fun x h => by rw [PyData.canLay0], fun x => by simp [PyData.depth]⟩
theorem enc_bool : Enc PyData.bool (fun _ => True) 0 := ⟨fun x y => by
  rw [PyData.eqv]
  by_cases h : x = y <;> simp [h], fun x h => by rw [PyData.canLay0], fun x => by simp [PyData.depth]⟩
def dW : Option Nat → PyData
  | none => .none
  | some n => .int (n : Int)
theorem enc_way : Enc dW (fun _ => True) 0 := by
  refine ⟨fun x y => ?_, fun x _ => ?_, fun x => ?_⟩
  · cases x <;> cases y <;> simp [dW, PyData.eqv]
    rename_i a b
    by_cases h : a = b
    · simp [h]
    · have : ¬ (a : Int) = (b : Int) := by omega
      simp [h, this]
  · cases x <;> simp [dW, PyData.canLay0]
  · cases x <;> simp [dW, PyData.depth]
def dWord (w : Word) : PyData := .list (w.map .str)
def dWays (w : Ways) : PyData := .list (w.map dW)
def dStd (s : Std) : PyData := .tuple [dWord s.1, dWays s.2]
def dForm (F : Form) : PyData := .list (F.map dStd)
def OkWord (w : Word) : Prop := ∀ t ∈ w, PyData.strOk t = true
def OkForm (F : Form) : Prop := ∀ s ∈ F, OkWord s.1
theorem enc_word : Enc dWord OkWord 1 := enc_str.list
theorem enc_ways : Enc dWays (fun w => ∀ x ∈ w, True) 1 := enc_way.list
theorem enc_std : Enc dStd (fun s => OkWord s.1 ∧ ∀ x ∈ s.2, True) 2 := enc_word.pair enc_ways
theorem enc_form : Enc dForm (fun F => ∀ s ∈ F, OkWord s.1 ∧ ∀ x ∈ s.2, True) 3 := enc_std.list
theorem OkForm.enc {F : Form} (h : OkForm F) : ∀ s ∈ F, OkWord s.1 ∧ ∀ x ∈ s.2, True := fun s hs => ⟨h s hs, fun _ _ => trivial⟩
theorem dpAll_map (f : α → V) (g : α → PyData) (h : ∀ x, Dp K H (f x) (g x)) : ∀ l : List α, DpAll K H (l.map f) (l.map g)
  | [] => .nil
  | x :: l => .cons (h x) (dpAll_map f g h l)
theorem dp_wd {a : Addr} {w : Word} (h : WordAt H a w) : Dp K H (.ref a) (dWord w) := .lst (SqL.of h) (dpAll_map _ _ (fun x => .str x) w)
theorem dp_way : ∀ x : Option Nat, Dp K H (vW x) (dW x)
  | none => .non
  | some n => .int (n : Int)
theorem dp_ways {a : Addr} {w : Ways} (h : WaysAt H a w) : Dp K H (.ref a) (dWays w) := .lst (SqL.of h) (dpAll_map _ _ dp_way w)
theorem dp_std {a : Addr} {s : Std} (h : StdAt H a s) : Dp K H (.ref a) (dStd s) := by
  obtain ⟨x, y, h1, h2, h3⟩ := h
  exact .tup (SqT.of h1) (.cons (dp_wd h2) (.cons (dp_ways h3) .nil))
theorem dp_form {a : Addr} {F : Form} (h : FormAt H a F) : Dp K H (.ref a) (dForm F) := by
  obtain ⟨ts, h1, h2⟩ := h
  refine .lst (SqL.of h1) ?_
  clear h1
  induction h2 with
  | nil => exact .nil
  | cons h _ ih => exact .cons (dp_std h) ih
theorem shaped_of (e : Enc D ok n) (hn : n ≤ 64) {x : α} (h : ok x) : SeqAt.shaped (D x) = true := by
  unfold SeqAt.shaped
  rw [Bool.and_eq_true]
  exact ⟨e.lay x h, decide_eq_true (Nat.le_trans (e.dep x) hn)⟩
theorem eq_enc (e : Enc D ok n) (hn : n ≤ 64) {u v : V} {x y : α} {Q : VK} (hx : Dp K H u (D x)) (hy : Dp K H v (D y)) (ox : ok x) (oy : ok y) (q : Q (.bl (decide (x = y))) H) : rEqD K u v H Q :=
  ⟨_, _, hx, hy, shaped_of e hn ox, shaped_of e hn oy, by rw [e.eq]; exact q⟩
theorem ne_enc (e : Enc D ok n) (hn : n ≤ 64) {u v : V} {x y : α} {Q : VK} (hx : Dp K H u (D x)) (hy : Dp K H v (D y)) (ox : ok x) (oy : ok y) (q : Q (.bl (!decide (x = y))) H) : rNeD K u v H Q :=
  ⟨_, _, hx, hy, shaped_of e hn ox, shaped_of e hn oy, by rw [e.eq]; exact q⟩
theorem eq_wd {a b : Addr} {v w : Word} {Q : VK} (hv : WordAt H a v) (hw : WordAt H b w) (ov : OkWord v) (ow : OkWord w) (q : Q (.bl (decide (v = w))) H) : rEqD K (.ref a) (.ref b) H Q := eq_enc enc_word (by decide) (dp_wd hv) (dp_wd hw) ov ow q
theorem ne_wd {a b : Addr} {v w : Word} {Q : VK} (hv : WordAt H a v) (hw : WordAt H b w) (ov : OkWord v) (ow : OkWord w) (q : Q (.bl (!decide (v = w))) H) : rNeD K (.ref a) (.ref b) H Q := ne_enc enc_word (by decide) (dp_wd hv) (dp_wd hw) ov ow q
theorem eq_form {a b : Addr} {F G : Form} {Q : VK} (hv : FormAt H a F) (hw : FormAt H b G) (ov : OkForm F) (ow : OkForm G) (q : Q (.bl (decide (F = G))) H) : rEqD K (.ref a) (.ref b) H Q := eq_enc enc_form (by decide) (dp_form hv) (dp_form hw) ov.enc ow.enc q
theorem ne_form {a b : Addr} {F G : Form} {Q : VK} (hv : FormAt H a F) (hw : FormAt H b G) (ov : OkForm F) (ow : OkForm G) (q : Q (.bl (!decide (F = G))) H) : rNeD K (.ref a) (.ref b) H Q := ne_enc enc_form (by decide) (dp_form hv) (dp_form hw) ov.enc ow.enc q
end
end QB
end

section
set_option Elab.async false
set_option linter.all false
set_option maxRecDepth 100000
set_option maxHeartbeats 2000000
/-! Qexc: a caught exception that outlives its suite. -/
namespace QX
open PySem PySem.Spec PyProof.Rows L2
/-- a caught exception that is kept: its class, its dict -/
def Kept (cls : Value) (d : Option Addr) (a : Addr) : HO := .ext fun h => ∃ (oe : Obj) (vs : Array Value), h.get? a = some oe ∧ Zc cls d oe ∧ oe.data = .fields vs
theorem kept_ok {P : Program} {w : World} {H : Hp} {h : Heap} {a : Addr} {cls : Value} {d : Option Addr} {ob : Obj} {fv : Array Value} (e : h.get? a = some ob) (z : Zc cls d ob) (hd : ob.data = .fields fv) : ObjOk P w H h a (Kept cls d a) :=
  ⟨⟨ob, fv, e, z, hd⟩, ⟨ob, e⟩, fun _ _ ⟨u, v, q, r⟩ k => ⟨u, v, k u q, r⟩⟩
theorem kept_get {P : Program} {w : World} {H : Hp} {h : Heap} {a : Addr} {cls : Value} {d : Option Addr} (hok : HOk P w H h) (e : H a = some (Kept cls d a)) : ∃ (ob : Obj) (fv : Array Value), h.get? a = some ob ∧ Zc cls d ob ∧ ob.data = .fields fv :=
  (show ObjOk P w H h a (.ext _) from hok a _ e).1
/-- what stood before a was made is not a -/
structure Apart (X : Cx) (pins : List (Addr × Obj)) (a : Addr) : Prop where
  s0 : ∀ b ob, X.s_0.heap.get? b = some ob → b ≠ a
  loc : X.env.locals ≠ a
  cell : ∀ y c, X.env.cells.lookup y = some c → c ≠ a
  pin : ∀ q ∈ X.pn ++ pins, q.1 ≠ a
section
variable {X : Cx} {pins : List (Addr × Obj)} {σ : L2.St} {H : Hp} {s : Shared} {a : Addr}
theorem Apart.of (I : Inv X pins σ H s) (hex : X.ex = []) (n : s.heap.get? a = none) : Apart X pins a := by
  have out : ∀ {b : Addr} {ob : Obj}, s.heap.get? b = some ob → b ≠ a := fun e z => by
    rw [z, n] at e
    cases e
  refine ⟨fun b ob e => ?_, ?_, fun y c e => ?_, fun q hq => out (I.pin q hq).1⟩
  · obtain ⟨u, hu⟩ := I.base.there b ob e (by rw [hex]; simp)
    exact out hu
  · obtain ⟨m, ⟨u, es, ep, hu, _⟩, _⟩ := I.loc
    exact out hu
  · obtain ⟨v, u, hu, _⟩ := I.cell y c e
    exact out hu
theorem track {o : HO} (I : Inv X pins σ H s) (ap : Apart X pins a) (na : H a = none) (ok : ObjOk X.prog X.w (upd H a o) s.heap a o) : Inv X pins σ (upd H a o) s := by
  have stays : ∀ {b : Addr} {u : HO}, H b = some u → upd H a o b = some u := fun e => (upd_ne (ne_of_none e na)).trans e
  exact { I with
    base := ⟨I.base.keep, I.base.slot, fun b ob e n hq => (upd_ne (ap.s0 b ob e)).trans (I.base.free b ob e n hq), I.base.there, fun b xs e => stays (I.base.tups b xs e), fun b u xs e => stays (I.base.frzs b u xs e), fun b ps e => by
      obtain ⟨m, q⟩ := I.base.tbls b ps e
      exact ⟨m, stays q⟩⟩
    free := (upd_ne ap.loc).trans I.free
    freeC := fun y c e => (upd_ne (ap.cell y c e)).trans (I.freeC y c e)
    pin := fun q hq => by
      obtain ⟨h1, h2, h3⟩ := I.pin q hq
      exact ⟨h1, (upd_ne (ap.pin q hq)).trans h2, h3⟩
    hok := I.hok.laidN (fun _ _ e => e) na ok }
end
/-- what a clause that keeps its exception wishes: at the suite's end the exception is tracked -/
def wKeep (K : PySem.W.Frag) (c : Value) (i : Nat) (ts : Addr → Value → Option Addr → TS) (Wout : WX) (D : Ends) : WX := fun cls d σ H =>
  ∃ b, PySem.W.exmOne K cls c = some b ∧ (b = false → Wout cls d σ H) ∧
    (b = true → ∀ a, H a = none → ts a cls d { nx := fun σ1 H1 => D.nx (σ1.set i none) (upd H1 a (Kept cls d a)), rt := fun v H1 => D.rt v (upd H1 a (Kept cls d a)), bk := fun σ1 H1 => D.bk (σ1.set i none) (upd H1 a (Kept cls d a)), ct := fun σ1 H1 => D.ct (σ1.set i none) (upd H1 a (Kept cls d a)) } (σ.set i (some (.ref a))) H)
section
variable {X : Cx} {x n : Str} {c : Value} {i : Nat} {body rest : List Stmt} {st₀ : Stmt} {np hpos tpos : Pos} {tb : WX → TS} {ts : Addr → Value → Option Addr → TS} {Wout : WX}
/-- the class that the clause names, looked up while an exception is handled -/
theorem clause_name {pins : List (Addr × Obj)} {σ : L2.St} {H : Hp} {s : Shared} {a : Addr} {pn : List (Addr × Obj)} (hc : Names X x c) (S : Inv (X.suite a pn) [] σ H s) {Q : Value → Shared → Prop} {E : Value → Shared → Prop} (q : Q c s) :
    wpAny (model X.prog X.w) (X.A.mark (some (.ref a))) (eval (.Name x np) X.env) Q E s := by
  rcases hc with ⟨h1, h2, h3 | ⟨h3, h4, h5⟩⟩
  · exact ld_glob (X := X.suite a pn) S h1 h3 q h2
  · exact ld_blt (X := X.suite a pn) S h1 h3 h4 q h5 h2
theorem keep_catch {pins : List (Addr × Obj)} {xe : Value → Shared → Prop} {D : Ends} {u : Value} {s' : Shared} (ok : X.Ok) (hs : X.stack = X.env :: X.outer) (hf : X.env.frame = some X.env.locals) (hex : X.ex = []) (hN : X.N.Nodup) (hi : X.N[i]? = some n) (hln : X.env.kindOf n = some .local) (hc : Names X x c) (tk : Takes X Wout)
    (hsu : ∀ (a : Addr) (oe : Obj) (cls : Value) (d : Option Addr) (pn : List (Addr × Obj)), Zc cls d oe → (∃ vs, oe.data = .fields vs) → PSs (X.suite a ((a, oe) :: pn)) (st₀ :: rest) (ts a cls d))
    (xx : XE (X.tr (X.pn ++ pins) xe) (wKeep X.K c i ts Wout D) u s') :
    wpAny (model X.prog X.w) X.A (noteFrame u X.env) (fun _ s₂ => wpAny (model X.prog X.w) X.A (setFlight u none) (fun _ s₃ => wpAny (model X.prog X.w) X.A (handleBy u X.env [.ExceptHandler (some (.Name x np)) (some n) (st₀ :: rest) hpos]) (SP X pins D) X.xe s₃) X.xe s₂) X.xe s' := by
  have hfr : X.A.frames = some (X.env :: X.outer) := by rw [ok.frames, hs]
  obtain ⟨a, B, sI, pins', σ', H', cls, d, rfl, J', nb, up, sky, na, os, ag, b, hb, hno, hyes⟩ := xx
  replace J' : Inv X pins σ' H' sI := J'.ofTry ok
  have apart : sI.heap.get? a = none → Apart X pins a := Apart.of J' hex
  replace sky : Sky B (X.env :: X.outer) a (Zc cls d) X.env.locals s'.heap := hs ▸ sky
  refine Sky.land Zc.steady hfr hf sky fun g1 fl1 up1 => ?_
  have I1 : Inv X pins σ' H' { s' with heap := g1 } := J'.landed nb fl1.1 (up.trans up1) os ag
  obtain ⟨o1, v1, k1, z1, d1⟩ := fl1.there
  have noFrame : a ∉ frs (X.env :: X.outer) := fun hm => by
    obtain ⟨_, o2, k2, hnf⟩ := fl1.2.2.1.mem hm
    rw [k1] at k2
    cases k2
    exact hnf _ d1
  have isIn : ∀ e ∈ X.env :: X.outer, e.frame ≠ some a := fun e he q => noFrame (List.mem_filterMap.mpr ⟨e, he, q⟩)
  have nL : a ≠ X.env.locals := fun z => isIn X.env List.mem_cons_self (z ▸ hf)
  have nF : a ∉ X.fs := fun hm => by
    obtain ⟨e, he, q⟩ := List.mem_filterMap.mp hm
    exact isIn e (List.mem_cons_of_mem _ he) q
  have ap : Apart X pins a := apart (by
    cases q : sI.heap.get? a with
    | none => rfl
    | some o2 =>
      have z := nb a o2 q (by rw [hs]; exact noFrame)
      rw [fl1.2.1] at z
      cases z)
  have S1 := I1.suite k1 d1 na nL nF
  refine wpAny_handleBy_cons (codeAny_handlers_test (clause_name (pins := pins) hc S1 ?_)) (fun q => by cases q)
  have ty : PySem.W.Looks (model X.prog X.w) g1 (typeOf (.ref a)) cls := fun A Q E t k q => wpAny_typeOf_ref (k _ _ k1) (z1.1.symm ▸ q)
  refine (PySem.W.exm_one (M := model X.prog X.w) I1.kIn ty hb).here ?_
  cases b with
  | true =>
    refine codeAny_handlers_suite_as (HandSPX.lands_againZ fl1 fun g2 fl2 up2 => ?_)
    have I2 : Inv X pins σ' H' { s' with heap := g2 } := J'.landed nb fl2.1 ((up.trans up1).trans up2) os ag
    obtain ⟨o2, v2, k2, z2, d2⟩ := fl2.there
    refine store_ok (X := X.suite a ((a, o2) :: (X.pn ++ pins))) (v := .ref a) (I2.suite k2 d2 na nL nF) hN hi (.inl hln) rfl (fun s5 S5 => ?_) (.inr hln)
    refine wpAny_mono ((hsu a o2 cls d (X.pn ++ pins) z2 ⟨_, d2⟩).run [] s5 _ H' _ S5 (hyes rfl a na)) (fun fl s6 hsp => ?_) (fun _ _ z => z.elim)
    have fin : ∀ {τ : L2.St} {G : Hp} {Q : Shared → Prop}, Inv (X.suite a ((a, o2) :: (X.pn ++ pins))) [] τ G s6 → (∀ s7, Inv X pins (τ.set i none) (upd G a (Kept cls d a)) s7 → Q s7) →
        wpAny (model X.prog X.w) X.A (do bindName X.env n .none; unbindBehindTheSuite X.env n hpos) (fun _ s7 => Q s7) X.xe s6 := fun S6 hq => by
      obtain ⟨h1, h2, _⟩ := S6.pin (a, o2) (List.mem_append_left _ List.mem_cons_self)
      exact gone_ok (track (S6.unsuite ok) ap h2 (kept_ok h1 z2 d2)) hN hi hln hq
    cases fl with
    | next =>
      obtain ⟨τ, G, S6, q6⟩ := hsp
      exact fin S6 fun s7 J7 => ⟨_, _, J7, q6⟩
    | brk =>
      obtain ⟨τ, G, S6, q6⟩ := hsp
      exact fin S6 fun s7 J7 => ⟨_, _, J7, q6⟩
    | cont =>
      obtain ⟨τ, G, S6, q6⟩ := hsp
      exact fin S6 fun s7 J7 => ⟨_, _, J7, q6⟩
    | ret r =>
      obtain ⟨v6, τ, G, S6, r6, q6⟩ := hsp
      exact fin S6 fun s7 J7 => ⟨_, _, _, J7, r6, q6⟩
  | false =>
    refine wpAny_handleBy_nil ?_
    obtain ⟨_, _, _, o3, v3, T, oT, ts', k3, z3, d3, h3, r3⟩ := id fl1
    unfold PySem.passOn
    refine wpAny_bind (wpAny_field k3 d3 h3 ?_)
    rw [if_neg (fun q : (Value.ref T == Value.none) = true => by simp at q)]
    have out : wpAny (model X.prog X.w) X.A (setFlight (.ref a) X.env.frame) (fun _ s4 => wpAny (model X.prog X.w) X.A (throw (.ref a) : Sem Flow) (SP X pins D) X.xe s4) X.xe { s' with heap := g1 } := by
      rw [hf]
      refine HandSPX.setFlight_upZ fl1 fun g2 held up2 => wpAny_throw (tk _ _ ⟨a, B, sI, pins, σ', H', cls, d, rfl, J', nb, (up.trans up1).trans up2, .inr (.inr ?_), na, os, ag, hno rfl⟩)
      rw [hs]
      exact held
    first
      | exact wpAny_bind (wpAny_pure (wpAny_bind out))
      | exact wpAny_bind out
/-- try: body / except x as n: suite, the exception kept -/
theorem ps_try_keep (hs : X.stack = X.env :: X.outer) (hf : X.env.frame = some X.env.locals) (hex : X.ex = []) (hN : X.N.Nodup) (hi : X.N[i]? = some n) (hln : X.env.kindOf n = some .local) (hc : Names X x c) (tk : Takes X Wout)
    (hb : ∀ (W : WX) (pn : List (Addr × Obj)) (xe : Value → Shared → Prop), Takes (X.tr pn xe) W → PassesOwn (model X.prog X.w) X.A X.env xe → PSs (X.tr pn xe) body (tb W))
    (hsu : ∀ (a : Addr) (oe : Obj) (cls : Value) (d : Option Addr) (pn : List (Addr × Obj)), Zc cls d oe → (∃ vs, oe.data = .fields vs) → PSs (X.suite a ((a, oe) :: pn)) (st₀ :: rest) (ts a cls d)) :
    PS X (.Try body [.ExceptHandler (some (.Name x np)) (some n) (st₀ :: rest) hpos] [] [] tpos) (fun D σ H => tb (wKeep X.K c i ts Wout D) D σ H) := by
  refine ⟨fun pins s σ H D I h => ?_⟩
  refine wpAny_Try_except (wpAny_mono ((hb (wKeep X.K c i ts Wout D) (X.pn ++ pins) _ (fun u s' xx => ?_) PassesOwn.looking).run [] s σ H D (I.toTry _) h) (fun fl s1 hsp => ?_) fun _ _ he => he)
  · exact keep_catch I.ok hs hf hex hN hi hln hc tk hsu xx
  · cases fl with
    | next =>
      obtain ⟨τ, G, J, q⟩ := hsp
      exact wpAny_execs_nil ⟨τ, G, J.ofTry I.ok, q⟩
    | brk =>
      obtain ⟨τ, G, J, q⟩ := hsp
      exact ⟨τ, G, J.ofTry I.ok, q⟩
    | cont =>
      obtain ⟨τ, G, J, q⟩ := hsp
      exact ⟨τ, G, J.ofTry I.ok, q⟩
    | ret r =>
      obtain ⟨v, τ, G, J, r1, q⟩ := hsp
      exact ⟨v, τ, G, J.ofTry I.ok, r1, q⟩
end
end QX
end

section
set_option Elab.async false
set_option linter.all false
set_option maxRecDepth 100000
set_option maxHeartbeats 2000000
/-! Qexc2: isinstance of a kept exception, its fields. -/
namespace QX
open PySem PySem.Spec PyProof.Rows L2
/-- its dict, if it has one, is tracked -/
def DictAt (H : Hp) (d : Option Addr) : Prop := d = none ∨ ∃ (dd : Addr) (fs : List (Str × V)), d = some dd ∧ H dd = some (.xd fs)
section
variable {X : Cx} {pins : List (Addr × Obj)} {σ : L2.St} {H : Hp} {s : Shared} {a D : Addr} {d : Option Addr}
theorem kept_inst (I : Inv X pins σ H s) (ha : H a = some (Kept (.ref D) d a)) (hd : DictAt H d) : ∃ (ob : Obj) (od : Option Obj), PySem.W.InstAt s.heap a ob D od := by
  obtain ⟨⟨oc, od, oda, osl⟩, fv, e, ⟨z1, z2⟩, z3⟩ := kept_get I.hok ha
  dsimp only at z1 z2 z3
  subst z1 z2 z3
  rcases hd with rfl | ⟨dd, fs, rfl, hx⟩
  · exact ⟨_, none, e, rfl, rfl, trivial⟩
  · obtain ⟨m, ⟨u, es, ep, hu, _⟩, _⟩ := (show ObjOk X.prog X.w H s.heap dd (.xd fs) from I.hok dd _ hx)
    exact ⟨_, some u, e, rfl, rfl, hu⟩
theorem kept_kit (I : Inv X pins σ H s) (C : ExcC X.K D) (ha : H a = some (Kept (.ref D) d a)) (hd : DictAt H d) : ∃ P : Heap → Prop, PySem.W.KitX X.K (.ref a) (.ref D) P ∧ P s.heap := by
  obtain ⟨ob, od, J⟩ := kept_inst I ha hd
  have hcl : (PySem.W.clsIn X.K D).isSome = true := by
    have h := C.hd
    unfold PySem.W.hasDictIn at h
    cases e : PySem.W.clsIn X.K D with
    | none =>
      rw [e] at h
      cases h
    | some _ => rfl
  exact ⟨_, PySem.W.kitx_exc (od := od) hcl C.hg C.hk C.hs C.ha C.hn C.ht C.hm, J⟩
end
/-- isinstance(e, c), e kept -/
def rIsX (K : PySem.W.Frag) : List V → Hp → VK → Prop := fun xs H Q => ∃ (a D : Addr) (d : Option Addr) (c : V) (u : Value) (b : Bool), xs = [.ref a, c] ∧ H a = some (Kept (.ref D) d a) ∧ DictAt H d ∧ ExcC K D ∧ ClsV c u ∧ PySem.W.kitOne K (.ref D) u = some b ∧ Q (.bl b) H
/-- isinstance(e, (c1, c2, ..)), e kept -/
def rIsXT (K : PySem.W.Frag) : List V → Hp → VK → Prop := fun xs H Q => ∃ (a D tp : Addr) (d : Option Addr) (cs : List V) (us : List Value) (b : Bool), xs = [.ref a, .ref tp] ∧ H a = some (Kept (.ref D) d a) ∧ DictAt H d ∧ ExcC K D ∧ H tp = some (.tup cs) ∧ Paired ClsV cs us ∧ PySem.W.kitAny K (.ref D) us = some b ∧ Q (.bl b) H
section
variable {X : Cx}
theorem call_isX : CallR X (.builtin "isinstance") (rIsX X.K) := by
  intro pins s σ H xs us Q I r ⟨a, D, d, c, u, b, ex, ha, hd, C, hc, e, q⟩
  subst ex
  obtain ⟨w1, w2, rfl, r1, r2⟩ := vals2 r
  cases hc.eq r2
  cases (show w1 = Value.ref a from r1)
  obtain ⟨P, Z, p⟩ := kept_kit I C ha hd
  exact PySem.W.kia_one Z I.kIn p e (fun z => nomatch z) fun tk => ⟨.bl b, H, I.tok tk, rfl, q⟩
theorem call_isXT : CallR X (.builtin "isinstance") (rIsXT X.K) := by
  intro pins s σ H xs us Q I r ⟨a, D, tp, d, cs, ws, b, ex, ha, hd, C, hT, hc, e, q⟩
  subst ex
  obtain ⟨w1, w2, rfl, r1, r2⟩ := vals2 r
  cases (show w1 = Value.ref a from r1)
  cases (show w2 = Value.ref tp from r2)
  obtain ⟨P, Z, p⟩ := kept_kit I C ha hd
  obtain ⟨_, its, rv, ⟨oc, od, dt, sl⟩, h1, h2, n, h3⟩ := (show ObjOk X.prog X.w H s.heap tp (.tup cs) from I.hok tp _ hT)
  cases ClsV.all hc rv
  dsimp only at h2 h3
  subst h2 h3
  exact PySem.W.kia_tup Z I.kIn p h1 e (fun z => nomatch z) fun tk => ⟨.bl b, H, I.tok tk, rfl, q⟩
theorem call_isXK (K : PySem.W.Frag) (h : X.K = K := by rfl) : CallR X (.builtin "isinstance") (rIsX K) := h ▸ call_isX
theorem call_isXTK (K : PySem.W.Frag) (h : X.K = K := by rfl) : CallR X (.builtin "isinstance") (rIsXT K) := h ▸ call_isXT
/-- e.f, e kept -/
def tFx (K : PySem.W.Frag) (f : Str) (te : TE) : TE := fun σ H Q => te σ H fun x H1 => ∃ (a C dd : Addr) (fs : List (Str × V)) (v : V), x = .ref a ∧ H1 a = some (Kept (.ref C) (some dd) a) ∧ XfC K C ∧ PySem.W.findIn K (.ref C) f = some none ∧ H1 dd = some (.xd fs) ∧ fs.lookup f = some v ∧ Q v H1
theorem pe_fx {e : Expr} {te : TE} {f : Str} {pos : Pos} (he : PE X e te) (hb : attributeBase e f X.env (eval e X.env) = eval e X.env) : PE X (.Attribute e f pos) (tFx X.K f te) := by
  refine ⟨fun pins s σ H Q I h => attr_of hb (thn (he.run pins s σ H _ I h) fun u s1 ⟨x, H1, I1, rx, a, C, dd, fs, v, ex, ha, T, hno, hx, hl, q⟩ => ?_)⟩
  subst ex
  cases (show u = Value.ref a from rx)
  obtain ⟨⟨oc, od, oda, osl⟩, fv, k1, ⟨z1, z2⟩, z3⟩ := kept_get I1.hok ha
  dsimp only at z1 z2 z3
  subst z1 z2 z3
  obtain ⟨m, hns, hr⟩ := (show ObjOk X.prog X.w H1 s1.heap dd (.xd fs) from I1.hok dd _ hx)
  obtain ⟨ot, ho, hlk⟩ := lookIn_ns hns
  obtain ⟨u, hu, ru⟩ := RelO.some_of (v := v) (o := m f) (by rw [← hl]; exact hr f)
  exact HandSPX.exc_get I1.kIn (od := some ot) ⟨k1, rfl, rfl, ho⟩ T.ga T.gg T.exC (PySem.W.findObj_own T.hdC hno rfl (by rw [hlk, hu])) (handed_of ru) ⟨v, H1, I1.tok _, ru, q⟩
theorem pe_fxK (K : PySem.W.Frag) {e : Expr} {te : TE} {f : Str} {pos : Pos} (he : PE X e te) (hb : attributeBase e f X.env (eval e X.env) = eval e X.env) (h : X.K = K := by rfl) : PE X (.Attribute e f pos) (tFx K f te) := h ▸ pe_fx he hb
end
end QX
end

section
set_option Elab.async false
set_option linter.all false
set_option maxRecDepth 100000
/-! Qend: from the Hook's facts to the text's. -/
namespace QE
open PySem PySem.Spec PyProof.Rows L2 He
def ownB (K : PySem.W.Frag) (C : Addr) : Bool :=
  (eqO (PySem.W.findIn K (.ref C) "__class__") (some (some (.builtin "object.__class__"))) && (eqO (PySem.W.specialIn K (.builtin "object.__class__") "__get__") (some (some (.builtin "getset_descriptor.__get__"))) &&
  (decide (PySem.W.takesIn K (.builtin "object.__class__") = some true) && decide (PySem.W.mroIn K C (.type "object") = some true)))) &&
  ((["list", "tuple", "str", "int", "bool", "NoneType", "dict"].all fun T => decide (PySem.W.kitOne K (.type T) (.ref C) = some false) && PySem.W.notFirst K C (.type T)) &&
  (["list", "tuple", "str", "int", "bool"].all fun T => decide (PySem.W.kitOne K (.ref C) (.type T) = some false)))
theorem ownB_ok {K : PySem.W.Frag} {C : Addr} (h : ownB K C = true) : QO.OwnC K C := by
  obtain ⟨h1, h2⟩ := ba h
  obtain ⟨a1, h1⟩ := ba h1
  obtain ⟨a2, h1⟩ := ba h1
  obtain ⟨a3, a4⟩ := ba h1
  obtain ⟨h3, h4⟩ := ba h2
  have k1 := fun T (m : T ∈ ["list", "tuple", "str", "int", "bool", "NoneType", "dict"]) => ba (List.all_eq_true.mp h3 T m)
  have k2 := fun T (m : T ∈ ["list", "tuple", "str", "int", "bool"]) => of_decide_eq_true (List.all_eq_true.mp h4 T m)
  have k3 := fun T (m : T ∈ ["list", "tuple", "str", "int", "bool", "NoneType", "dict"]) => of_decide_eq_true (k1 T m).1
  have k4 := fun T (m : T ∈ ["list", "tuple", "str", "int", "bool", "NoneType", "dict"]) => (k1 T m).2
  exact ⟨eqO_ok a1, eqO_ok a2, of_decide_eq_true a3, of_decide_eq_true a4, k3 _ (by simp), k3 _ (by simp), k3 _ (by simp), k3 _ (by simp), k3 _ (by simp), k3 _ (by simp), k3 _ (by simp),
    k2 _ (by simp), k2 _ (by simp), k2 _ (by simp), k2 _ (by simp), k2 _ (by simp), k4 _ (by simp), k4 _ (by simp), k4 _ (by simp), k4 _ (by simp), k4 _ (by simp), k4 _ (by simp), k4 _ (by simp)⟩
theorem funD_fun {K : PySem.W.Frag} {x q : Str} {st : Stmt} {f : Addr} {fd : FuncData} (F : FunD K x q (defArgs st) (defBody st) (defScope st) [] [] f fd) : L2.Fun K x q st f fd := by
  obtain ⟨oc, od, dV, kV, doc, pm, an, cdv, ct, osl, h1, h2, h3, h4, h5⟩ := F.ex
  have e : dV = .none := by
    rcases h4 with ⟨_, h4⟩ | ⟨h4, _⟩
    · exact h4
    · exact absurd rfl h4
  subst e
  exact ⟨⟨oc, od, kV, doc, pm, an, cdv, ct, osl, h1, h2, h3⟩, F.kp⟩
theorem funC_of {K : PySem.W.Frag} {x q : Str} {st : Stmt} {p : Str × Option Str} {fd : FuncData} (F : FunD K x q (defArgs st) (defBody st) (defScope st) [] [] (fAd K p) fd) : QB.FunC K x q st (fAd K p) fd (codeOf K p) := by
  obtain ⟨oc, od, kV, doc, pm, an, cdv, ct, osl, h1, h2, h3⟩ := (funD_fun F).ex
  obtain ⟨c, rfl⟩ := codeIn_ref h3
  have e : codeOf K p = c := codeOf_eq h2 (by rw [h1])
  rw [e]
  exact ⟨⟨oc, od, kV, doc, pm, an, ct, osl, h1, h2, h3⟩⟩
end QE
end

section
set_option Elab.async false
set_option linter.all false
set_option maxRecDepth 100000
set_option maxHeartbeats 2000000
/-! Qcls: the text's own exception classes, from the top's facts. -/
namespace QX
open PySem PySem.Spec PyProof.Rows L2 He
/-- an own exception class whose __init__ (at fI) writes the field f -/
structure ExcT (K : PySem.W.Frag) (C fI : Addr) (f : Str) : Prop where
  oex : OexC K C
  exc : ExcC K C
  xf : XfC K C
  noF : PySem.W.findIn K (.ref C) f = some none
  iC : PySem.W.findIn K (.ref C) "__init__" = some (some (.ref fI))
  tI : PySem.W.typeIn K (.ref fI) = some (.type "function")
/-- the class object is one of an exception class over ValueError -/
def clsB (K : PySem.W.Frag) (C : Addr) : Bool := match K.lookup C with
  | none => false
  | some ob => decide (ob.cls = .type "type") && (match ob.data with
    | .cls r => r.hasDict && (!r.hasDel && ((match r.mro with
      | m :: over => decide (m = .ref C) && PySem.HandSPX.refsVE over
      | [] => false) && (match ob.slots.toList with
      | [_, _, _, _, m, _] => decide (m = some (.builtin "ValueError.__new__"))
      | _ => false)))
    | _ => false)
theorem clsB_ok {K : PySem.W.Frag} {C : Addr} (h : clsB K C = true) : ∃ nm q N bs bm sn sub ab col dd k0 k1 k2 k3 k5, K.lookup C = some (excClassObj nm q C N bs bm true sn sub ab col dd k0 k1 k2 k3 k5 "ValueError.__new__") ∧ PySem.HandSPX.refsVE bm = true := by
  unfold clsB at h
  cases e : K.lookup C with
  | none =>
    rw [e] at h
    cases h
  | some ob =>
    rw [e] at h
    obtain ⟨oc, od, dt, sl⟩ := ob
    obtain ⟨h1, h2⟩ := ba h
    have h1 : oc = .type "type" := of_decide_eq_true h1
    subst h1
    cases dt with
    | cls r =>
      obtain ⟨nm, bs, mro, ns, qn, hd, sn, sub, ab, col, del⟩ := r
      obtain ⟨h3, h2⟩ := ba h2
      obtain ⟨h4, h2⟩ := ba h2
      obtain ⟨h5, h6⟩ := ba h2
      have h3 : hd = true := h3
      have h9 : del = false := by
        have h4 : (!del) = true := h4
        cases del with
        | false => rfl
        | true => cases h4
      clear h4
      subst h3 h9
      cases mro with
      | nil => cases h5
      | cons m over =>
        obtain ⟨h5, h7⟩ := ba h5
        have h5 : m = .ref C := of_decide_eq_true h5
        subst h5
        obtain ⟨l⟩ := sl
        match l, h6 with
        | [k0, k1, k2, k3, m4, k5], h6 =>
          have h6 : m4 = some (.builtin "ValueError.__new__") := of_decide_eq_true h6
          subst h6
          exact ⟨nm, qn, ns, bs, over, sn, sub, ab, col, od, k0, k1, k2, k3, k5, rfl, h7⟩
    | _ => cases h2
def excB (K : PySem.W.Frag) (C : Addr) : Bool :=
  eqO (PySem.W.findIn K (.ref C) "__getattribute__") (some (some (.builtin "BaseException.__getattribute__"))) && (eqO (PySem.W.findIn K (.ref C) "__getattr__") (some none) && (decide (PySem.W.subIn K (.ref C) (.type "BaseException") = some true) && (PySem.W.hasDictIn K C &&
  (eqO (PySem.W.findIn K (.ref C) "__class__") (some (some (.builtin "object.__class__"))) && (eqO (PySem.W.specialIn K (.builtin "object.__class__") "__get__") (some (some (.builtin "getset_descriptor.__get__"))) &&
  (decide (PySem.W.takesIn K (.builtin "object.__class__") = some true) && decide (PySem.W.mroIn K C (.type "object") = some true)))))))
theorem excB_ok {K : PySem.W.Frag} {C : Addr} (h : excB K C = true) : ExcC K C ∧ XfC K C := by
  obtain ⟨h1, h⟩ := ba h
  obtain ⟨h2, h⟩ := ba h
  obtain ⟨h3, h⟩ := ba h
  obtain ⟨h4, h⟩ := ba h
  obtain ⟨h5, h⟩ := ba h
  obtain ⟨h6, h⟩ := ba h
  obtain ⟨h7, h8⟩ := ba h
  exact ⟨⟨eqO_ok h1, eqO_ok h2, of_decide_eq_true h3, h4, eqO_ok h5, eqO_ok h6, of_decide_eq_true h7, of_decide_eq_true h8⟩, ⟨eqO_ok h1, eqO_ok h2, of_decide_eq_true h3, h4⟩⟩
def excTB (K : PySem.W.Frag) (C fI : Addr) (f : Str) : Bool :=
  clsB K C && (excB K C && (eqO (PySem.W.findIn K (.ref C) "__setattr__") (some (some (.builtin "object.__setattr__"))) && (decide (PySem.W.typeIn K (.ref C) = some (.type "type")) && (PySem.W.keepIn K (.ref C) &&
  (eqO (PySem.W.findIn K (.ref C) f) (some none) && (eqO (PySem.W.findIn K (.ref C) "__init__") (some (some (.ref fI))) && decide (PySem.W.typeIn K (.ref fI) = some (.type "function"))))))))
theorem excTB_ok {K : PySem.W.Frag} {C fI : Addr} {f : Str} (h : excTB K C fI f = true) : ExcT K C fI f := by
  obtain ⟨h1, h⟩ := ba h
  obtain ⟨h2, h⟩ := ba h
  obtain ⟨h3, h⟩ := ba h
  obtain ⟨h4, h⟩ := ba h
  obtain ⟨h5, h⟩ := ba h
  obtain ⟨h6, h⟩ := ba h
  obtain ⟨h7, h8⟩ := ba h
  obtain ⟨e1, e2⟩ := excB_ok h2
  exact ⟨⟨clsB_ok h1, eqO_ok h3, e1.hs, of_decide_eq_true h4, h5⟩, e1, e2, eqO_ok h6, eqO_ok h7, of_decide_eq_true h8⟩
/-- an own exception class without __init__ -/
structure ExcU (K : PySem.W.Frag) (C : Addr) : Prop where
  exc : ExcC K C
  tyC : PySem.W.typeIn K (.ref C) = some (.type "type")
  kC : PySem.W.keepIn K (.ref C) = true
def isB (K : PySem.W.Frag) (D C : Addr) (b : Bool) : Bool := decide (PySem.W.kitOne K (.ref D) (.ref C) = some b)
def isTB (K : PySem.W.Frag) (D : Addr) (T : String) (b : Bool) : Bool := decide (PySem.W.kitOne K (.ref D) (.type T) = some b)
def exmB (K : PySem.W.Frag) (D C : Addr) : Bool := decide (PySem.W.exmOne K (.ref D) (.ref C) = some true)
/-! what __init__ of such a class keeps -/
def spExI (K : PySem.W.Frag) (C : Addr) (f : Str) : Sp := fun vs H Q _ => ∃ (a : Addr) (y : V), vs = [.ref a, y] ∧ H a = some (exo a C none) ∧ ∀ dx, H dx = none → dx ≠ a → Q .non (upd (upd H dx (exd dx [(f, y)])) a (exo a C (some dx)))
/-- raise C(e): the reading behind e -/
theorem mkO_of {K : PySem.W.Frag} {C : Addr} {f : Str} {H1 : Hp} {v : V} {Q : XK} (k : ∀ d, H1 d = none → Q (.ref C) (some d) (upd H1 d (.xd [(f, v)]))) :
    ([v] : List V).length ≤ 1000 ∧ ∀ a, H1 a = none → spExI K C f (.ref a :: ([v] ++ [])) (upd H1 a (exo a C none))
      (fun v H2 => v = .non ∧ ∃ (d : Addr) (fs : List (Str × V)), H2 a = some (exo a C (some d)) ∧ H2 d = some (exd d fs) ∧ H1 d = none ∧ Q (.ref C) (some d) (upd (del H2 a) d (.xd fs))) (fun _ _ _ => False) := by
  refine ⟨by show 1 ≤ 1000; decide, fun a ha => ⟨a, v, rfl, upd_same, fun dx hd hne => ⟨rfl, dx, _, upd_same, Eq.trans (upd_ne hne) upd_same, ?_, ?_⟩⟩⟩
  · rw [← hd, upd_ne hne]
  · have hn : H1 dx = none := by rw [← hd, upd_ne hne]
    have e : upd (del (upd (upd (upd H1 a (exo a C none)) dx (exd dx [(f, v)])) a (exo a C (some dx))) a) dx (.xd [(f, v)]) = upd H1 dx (.xd [(f, v)]) := by
      funext b
      by_cases h1 : b = dx
      · subst h1
        rw [upd_same, upd_same]
      · rw [upd_ne h1, upd_ne h1]
        by_cases h2 : b = a
        · subst h2
          rw [del_same, ha]
        · rw [del_ne h2, upd_ne h2, upd_ne h1, upd_ne h2]
    rw [e]
    exact k dx hn
end QX
end

section
set_option Elab.async false
set_option linter.all false
set_option maxRecDepth 100000
set_option maxHeartbeats 2000000
/-! Qval: any plain values as data (an empty dict among them), read off the tracked heap; repr of them; a class made in a suite that may raise. -/
namespace QV
open PySem PySem.Spec PyProof.Rows L2 QB
mutual
/-- a value that is this data, each part of it tracked -/
inductive Dv (H : Hp) : V → PyData → Prop
  | non : Dv H .non .none
  | bl (b : Bool) : Dv H (.bl b) (.bool b)
  | int (i : Int) : Dv H (.int i) (.int i)
  | str (x : Str) : Dv H (.str x) (.str x)
  | lst {a : Addr} {xs : List V} {ds : List PyData} : H a = some (.lst xs) → DvAll H xs ds → Dv H (.ref a) (.list ds)
  | tup {a : Addr} {xs : List V} {ds : List PyData} : H a = some (.tup xs) → DvAll H xs ds → Dv H (.ref a) (.tuple ds)
  | dct {a : Addr} : H a = some (.dK []) → Dv H (.ref a) (.dict [])
inductive DvAll (H : Hp) : List V → List PyData → Prop
  | nil : DvAll H [] []
  | cons {v : V} {vs : List V} {d : PyData} {ds : List PyData} : Dv H v d → DvAll H vs ds → DvAll H (v :: vs) (d :: ds)
end
def tyD : PyData → Value
  | .none => .type "NoneType"
  | .bool _ => .type "bool"
  | .int _ => .type "int"
  | .str _ => .type "str"
  | .list _ => .type "list"
  | .tuple _ => .type "tuple"
  | .dict _ => .type "dict"
def isSD : PyData → Bool
  | .str _ => true
  | _ => false
def isLD : PyData → Bool
  | .list _ => true
  | _ => false
def isTD : PyData → Bool
  | .tuple _ => true
  | _ => false
def isID : PyData → Bool
  | .int _ => true
  | .bool _ => true
  | _ => false
def isBD : PyData → Bool
  | .bool _ => true
  | _ => false
theorem Dv.ty (K : PySem.W.Frag) {H : Hp} {v : V} {d : PyData} (h : Dv H v d) : TyX K H v (tyD d) := by
  cases h with
  | non => exact .base .non
  | bl b => exact .base (.bl b)
  | int i => exact .base (.int i)
  | str x => exact .base (.str x)
  | lst h _ => exact .base (.lst h)
  | tup h _ => exact .base (.tup h)
  | dct h => exact .base (.dK h)
section
variable {K : PySem.W.Frag}
theorem kit_s : ∀ d : PyData, PySem.W.kitOne K (tyD d) (.type "str") = some (isSD d)
  | .none => kit_ty (show kitB "NoneType" "str" = some false by decide +kernel)
  | .bool _ => kit_ty (show kitB "bool" "str" = some false by decide +kernel)
  | .int _ => kit_ty (show kitB "int" "str" = some false by decide +kernel)
  | .str _ => kit_ty (show kitB "str" "str" = some true by decide +kernel)
  | .list _ => kit_ty (show kitB "list" "str" = some false by decide +kernel)
  | .tuple _ => kit_ty (show kitB "tuple" "str" = some false by decide +kernel)
  | .dict _ => kit_ty (show kitB "dict" "str" = some false by decide +kernel)
theorem kit_l : ∀ d : PyData, PySem.W.kitOne K (tyD d) (.type "list") = some (isLD d)
  | .none => kit_ty (show kitB "NoneType" "list" = some false by decide +kernel)
  | .bool _ => kit_ty (show kitB "bool" "list" = some false by decide +kernel)
  | .int _ => kit_ty (show kitB "int" "list" = some false by decide +kernel)
  | .str _ => kit_ty (show kitB "str" "list" = some false by decide +kernel)
  | .list _ => kit_ty (show kitB "list" "list" = some true by decide +kernel)
  | .tuple _ => kit_ty (show kitB "tuple" "list" = some false by decide +kernel)
  | .dict _ => kit_ty (show kitB "dict" "list" = some false by decide +kernel)
theorem kit_t : ∀ d : PyData, PySem.W.kitOne K (tyD d) (.type "tuple") = some (isTD d)
  | .none => kit_ty (show kitB "NoneType" "tuple" = some false by decide +kernel)
  | .bool _ => kit_ty (show kitB "bool" "tuple" = some false by decide +kernel)
  | .int _ => kit_ty (show kitB "int" "tuple" = some false by decide +kernel)
  | .str _ => kit_ty (show kitB "str" "tuple" = some false by decide +kernel)
  | .list _ => kit_ty (show kitB "list" "tuple" = some false by decide +kernel)
  | .tuple _ => kit_ty (show kitB "tuple" "tuple" = some true by decide +kernel)
  | .dict _ => kit_ty (show kitB "dict" "tuple" = some false by decide +kernel)
theorem kit_i : ∀ d : PyData, PySem.W.kitOne K (tyD d) (.type "int") = some (isID d)
  | .none => kit_ty (show kitB "NoneType" "int" = some false by decide +kernel)
  | .bool _ => kit_ty (show kitB "bool" "int" = some true by decide +kernel)
  | .int _ => kit_ty (show kitB "int" "int" = some true by decide +kernel)
  | .str _ => kit_ty (show kitB "str" "int" = some false by decide +kernel)
  | .list _ => kit_ty (show kitB "list" "int" = some false by decide +kernel)
  | .tuple _ => kit_ty (show kitB "tuple" "int" = some false by decide +kernel)
  | .dict _ => kit_ty (show kitB "dict" "int" = some false by decide +kernel)
theorem kit_b : ∀ d : PyData, PySem.W.kitOne K (tyD d) (.type "bool") = some (isBD d)
  | .none => kit_ty (show kitB "NoneType" "bool" = some false by decide +kernel)
  | .bool _ => kit_ty (show kitB "bool" "bool" = some true by decide +kernel)
  | .int _ => kit_ty (show kitB "int" "bool" = some false by decide +kernel)
  | .str _ => kit_ty (show kitB "str" "bool" = some false by decide +kernel)
  | .list _ => kit_ty (show kitB "list" "bool" = some false by decide +kernel)
  | .tuple _ => kit_ty (show kitB "tuple" "bool" = some false by decide +kernel)
  | .dict _ => kit_ty (show kitB "dict" "bool" = some false by decide +kernel)
end
section
variable {T : List (Addr × Str)} {H H' : Hp}
mutual
/-- what isn't a table stays -/
theorem Dv.keep (k : ∀ p o, H p = some o → (∀ ps, o ≠ .tbl ps) → H' p = some o) : ∀ (d : PyData) (v : V), Dv H v d → Dv H' v d
  | .none, _, h => by
    cases h
    exact .non
  | .bool b, _, h => by
    cases h
    exact .bl b
  | .int i, _, h => by
    cases h
    exact .int i
  | .str x, _, h => by
    cases h
    exact .str x
  | .list ds, _, h => by
    cases h with
    | lst h1 h2 => exact .lst (k _ _ h1 fun _ z => nomatch z) (DvAll.keep k ds _ h2)
  | .tuple ds, _, h => by
    cases h with
    | tup h1 h2 => exact .tup (k _ _ h1 fun _ z => nomatch z) (DvAll.keep k ds _ h2)
  | .dict _, _, h => by
    cases h with
    | dct h1 => exact .dct (k _ _ h1 fun _ z => nomatch z)
theorem DvAll.keep (k : ∀ p o, H p = some o → (∀ ps, o ≠ .tbl ps) → H' p = some o) : ∀ (ds : List PyData) (vs : List V), DvAll H vs ds → DvAll H' vs ds
  | [], _, h => by
    cases h
    exact .nil
  | d :: ds, _, h => by
    cases h with
    | cons h1 h2 => exact .cons (Dv.keep k d _ h1) (DvAll.keep k ds _ h2)
end
theorem Dv.ext {v : V} {d : PyData} (h : Dv H v d) (x : QB.Ext T H H') : Dv H' v d := Dv.keep (fun _ _ e n => x.get e n) d v h
theorem Dv.same {v : V} {d : PyData} (h : Dv H v d) (x : Same H H') : Dv H' v d := Dv.keep (fun _ _ e _ => x _ _ e) d v h
theorem DvAll.ext {vs : List V} {ds : List PyData} (h : DvAll H vs ds) (x : QB.Ext T H H') : DvAll H' vs ds := DvAll.keep (fun _ _ e n => x.get e n) ds vs h
theorem DvAll.same {vs : List V} {ds : List PyData} (h : DvAll H vs ds) (x : Same H H') : DvAll H' vs ds := DvAll.keep (fun _ _ e _ => x _ _ e) ds vs h
theorem DvAll.len : ∀ {vs : List V} {ds : List PyData}, DvAll H vs ds → ds.length = vs.length
  | _, _, .nil => rfl
  | _, _, .cons _ h => by rw [List.length_cons, List.length_cons, DvAll.len h]
theorem DvAll.app : ∀ {xs ys : List V} {ds es : List PyData}, DvAll H xs ds → DvAll H ys es → DvAll H (xs ++ ys) (ds ++ es)
  | _, _, _, _, .nil, h => h
  | _, _, _, _, .cons h1 h2, h => .cons h1 (DvAll.app h2 h)
theorem DvAll.get : ∀ {vs : List V} {ds : List PyData} {i : Nat} {v : V}, DvAll H vs ds → vs[i]? = some v → ∃ d, ds[i]? = some d ∧ Dv H v d
  | _, _, i, _, .nil, e => by simp at e
  | _, _, 0, _, .cons h _, e => by
    simp at e
    subst e
    exact ⟨_, rfl, h⟩
  | _, _, i + 1, _, .cons _ h, e => by
    rw [List.getElem?_cons_succ] at e
    obtain ⟨d, q, r⟩ := DvAll.get h e
    exact ⟨d, by rw [List.getElem?_cons_succ]; exact q, r⟩
theorem DvAll.take : ∀ {vs : List V} {ds : List PyData} (i : Nat), DvAll H vs ds → DvAll H (vs.take i) (ds.take i)
  | _, _, i, .nil => by
    rw [List.take_nil, List.take_nil]
    exact .nil
  | _, _, 0, .cons _ _ => .nil
  | _, _, i + 1, .cons h1 h2 => .cons h1 (DvAll.take i h2)
theorem DvAll.drop : ∀ {vs : List V} {ds : List PyData} (i : Nat), DvAll H vs ds → DvAll H (vs.drop i) (ds.drop i)
  | _, _, i, .nil => by
    rw [List.drop_nil, List.drop_nil]
    exact .nil
  | _, _, 0, .cons h1 h2 => .cons h1 h2
  | _, _, i + 1, .cons _ h2 => DvAll.drop i h2
theorem DvAll.rep {v : V} {d : PyData} (h : Dv H v d) : ∀ n : Nat, DvAll H (List.replicate n v) (List.replicate n d)
  | 0 => .nil
  | n + 1 => by
    rw [List.replicate_succ, List.replicate_succ]
    exact .cons h (DvAll.rep h n)
theorem DvAll.strs : ∀ wd : List Str, DvAll H (wd.map V.str) (wd.map PyData.str)
  | [] => .nil
  | t :: wd => .cons (.str t) (DvAll.strs wd)
theorem DvAll.set : ∀ {vs : List V} {ds : List PyData} (i : Nat) {v : V} {d : PyData}, DvAll H vs ds → Dv H v d → DvAll H (vs.set i v) (ds.set i d)
  | _, _, _, _, _, .nil, _ => .nil
  | _, _, 0, _, _, .cons _ h2, h => .cons h h2
  | _, _, i + 1, _, _, .cons h1 h2, h => .cons h1 (DvAll.set i h2 h)
theorem DvAll.mem : ∀ {vs : List V} {ds : List PyData} {v : V}, DvAll H vs ds → v ∈ vs → ∃ d ∈ ds, Dv H v d
  | _, _, _, .cons (d := d) h1 h2, hm => by
    rcases List.mem_cons.mp hm with rfl | hm
    · exact ⟨d, List.mem_cons_self, h1⟩
    · obtain ⟨e, he, q⟩ := DvAll.mem h2 hm
      exact ⟨e, List.mem_cons_of_mem _ he, q⟩
end
/-! repr -/
/-- data that repr writes without passing a line -/
structure Shows (d : PyData) : Prop where
  few : d.leavesShort 30 = true
  show_ : d.showable = true
  weight : d.weight ≤ 100000
  deep : d.depth ≤ 40
theorem Shows.size {d : PyData} (s : Shows d) : d.shown.length ≤ sizeLine := by
  have h := PyData.shown_le 30 (by decide) d s.few
  have w := s.weight
  rw [sizeLine_eq]
  omega
section
variable {X : Cx} {pins : List (Addr × Obj)} {σ : L2.St} {H : Hp} {s : Shared}
theorem notMods (I : Inv X pins σ H s) (hB : ∃ mm, X.base.Ns sysModules mm) {a : Addr} {o : HO} (h : H a = some o) : sysModules ≠ a := fun e => by
  obtain ⟨mm, u, es, ep, eu, _⟩ := hB
  have := (I.bs _ _ eu).2
  rw [e, h] at this
  cases this
mutual
theorem Dv.reads (I : Inv X pins σ H s) (hB : ∃ mm, X.base.Ns sysModules mm) : ∀ (d : PyData) (v : V) (u : Value), Dv H v d → RelV v u → ∃ as, Reads s.heap u d as ∧ sysModules ∉ as
  | .none, _, _, h, r => by
    cases h
    cases r
    exact ⟨_, .none, List.not_mem_nil⟩
  | .bool b, _, _, h, r => by
    cases h
    cases r
    exact ⟨_, .bool b, List.not_mem_nil⟩
  | .int i, _, _, h, r => by
    cases h
    obtain ⟨t, rfl⟩ := r
    exact ⟨_, .int i t, List.not_mem_nil⟩
  | .str x, _, _, h, r => by
    cases h
    obtain ⟨t, rfl⟩ := r
    exact ⟨_, .str x t, List.not_mem_nil⟩
  | .list ds, _, _, h, r => by
    cases h with
    | lst hs ha =>
      cases r
      obtain ⟨its, rv, ⟨o, n, ho, hc, _, hd⟩, _⟩ := I.list (SqL.of hs)
      obtain ⟨as, hr, ns⟩ := DvAll.reads I hB ds _ its ha rv
      exact ⟨_, .list ho hc hd hr, fun z => (List.mem_cons.mp z).elim (notMods I hB hs) ns⟩
  | .tuple ds, _, _, h, r => by
    cases h with
    | tup hs ha =>
      cases r
      obtain ⟨its, rv, ⟨o, ho, hc, n, hd⟩, _⟩ := I.tuple (SqT.of hs)
      obtain ⟨as, hr, ns⟩ := DvAll.reads I hB ds _ its ha rv
      exact ⟨_, .tuple ho hc hd hr, ns⟩
  | .dict _, _, _, h, r => by
    cases h with
    | @dct a hs =>
      cases r
      obtain ⟨_, hn, vs, kv, o, es, ep, ho, hx, hd, _, hp, _⟩ := dk_of I.hok hs
      cases kv
      have he : es.toList = [] := by
        cases hl : es.toList with
        | nil => rfl
        | cons x r =>
          rw [hl] at hp
          cases hp
      refine ⟨_, .dict (kvs := []) (as := []) (bs := []) ho hx.1 hd (by rw [he]; exact .nil) (by rw [he]; exact .nil), fun z => ?_⟩
      rcases List.mem_cons.mp z with z | z
      · exact notMods I hB hs z
      · exact List.not_mem_nil z
theorem DvAll.reads (I : Inv X pins σ H s) (hB : ∃ mm, X.base.Ns sysModules mm) : ∀ (ds : List PyData) (vs : List V) (us : List Value), DvAll H vs ds → Vals vs us → ∃ as, ReadsAll s.heap us ds as ∧ sysModules ∉ as
  | [], _, _, h, r => by
    cases h
    cases r
    exact ⟨_, .nil, List.not_mem_nil⟩
  | d :: ds, _, _, h, r => by
    cases h with
    | cons h1 h2 =>
      cases r with
      | cons r1 r2 =>
        obtain ⟨as, q1, n1⟩ := Dv.reads I hB d _ _ h1 r1
        obtain ⟨bs, q2, n2⟩ := DvAll.reads I hB ds _ _ h2 r2
        exact ⟨_, .cons q1 q2, fun z => (List.mem_append.mp z).elim n1 n2⟩
end
end
def rReprV : List V → Hp → VK → Prop := fun xs H Q => ∃ (v : V) (d : PyData) (a : Addr), xs = [v] ∧ v = .ref a ∧ Dv H v d ∧ Shows d ∧ Q (.str d.shown) H
section
variable {X : Cx}
theorem call_reprV (hg : X.A.guards = some []) (hu : X.A.units + 64 < cLine) (hB : ∃ mm, X.base.Ns sysModules mm) : CallR X (.builtin "repr") rReprV := by
  intro pins s σ H xs us Q I r ⟨v, d, a, ex, ev, hd, sh, q⟩
  subst ex ev
  obtain ⟨u, rfl, ru⟩ := vals1 r
  have hdp := sh.deep
  obtain ⟨as, rd, ns⟩ := Dv.reads I hB d _ u hd ru
  cases ru
  exact repr_of_reads' rd sh.show_ (fun _ => ns) hg (by omega) (fun _ _ z => z) (fun h' t tk hk => ⟨.str d.shown, H, I.kept (t' := tk) hk, ⟨t, rfl⟩, q⟩) sh.size
end
/-! a class made in a suite that may raise -/
section
variable {X : Cx} {CX : CXT} {k : Nat} {f C : Addr} {fd : FuncData} {ps : List Str} {sp : Sp} {dvs : List V} {ds : List Value} {E : L2.St → XK} {x : Str} {p pos : Pos} {e : Expr} {es : List Expr} {t : TA}
def tMakeS (C : Addr) (sp : Sp) (dvs : List V) (E : L2.St → XK) (t : TA) : TE := fun σ H Q => t σ H fun vs G => ∀ o dx, G o = none → G dx = none → dx ≠ o →
  sp (.ref o :: (vs ++ dvs)) (upd (upd G dx (.own o)) o (.ins C dx [])) (fun r G2 => r = .non ∧ Q (.ref o) G2) (E σ)
theorem mk_run {pins : List (Addr × Obj)} {σ : L2.St} {H : Hp} {s : Shared} {Q : VK} {us : List Value} {vs : List V} (cm : Mk X.K C f) (fn : FnOk X.prog X.w X.K X.mg X.base CX k f fd ps sp) (room : Room (k + 1) X.A) (bi : Binds X.K fd ps ds) (dv : Vals dvs ds)
    (px : PassesAt CX X σ (E σ)) (inv : Inv X pins σ H s) (rel : Vals vs us)
    (go : ∀ o dx, H o = none → H dx = none → dx ≠ o → sp (.ref o :: (vs ++ dvs)) (upd (upd H dx (.own o)) o (.ins C dx [])) (fun r G2 => r = .non ∧ Q (.ref o) G2) (E σ)) :
    wpAny (model X.prog X.w) X.A (call (.ref C) us) (EP X pins σ Q) X.xe s := by
  have new1 : H (s.heap.objs.size + 1) = none := inv.hok.fresh (by omega)
  have new0 : H s.heap.objs.size = none := inv.hok.fresh (by omega)
  have said := go _ _ new1 new0 (show s.heap.objs.size ≠ s.heap.objs.size + 1 by omega)
  have inv2 := Inv.made (C := C) inv
  have rel2 : Vals (V.ref (s.heap.objs.size + 1) :: (vs ++ dvs)) (Value.ref (s.heap.objs.size + 1) :: (us ++ ds)) := .cons rfl (rel.append dv)
  have many : (Value.ref (s.heap.objs.size + 1) :: us ++ ds).length = ps.length := by
    have := rel2.length
    rw [fn.len _ _ _ _ said] at this
    exact this.symm
  have ran := fn.run _ X.stack _ _ ⟨Value.ref (s.heap.objs.size + 1) :: us, []⟩ (Value.ref (s.heap.objs.size + 1) :: (us ++ ds)) _ _ (E σ) (room.make C us []) (inv2.env0.make C us []) (bi _ (Value.ref (s.heap.objs.size + 1) :: us) inv2.kIn many) rel2 said
  refine wpAny_call (make_map (f := f) inv.kIn cm.makes cm.init (beq_iff_eq.mp cm.fn) (codeAny_mono ran fun out s' got => ?_))
  cases out with
  | error err => exact px pins _ _ err s' inv2 got
  | ok way =>
    cases way with
    | ret u =>
      have done := inv2.after got
      obtain ⟨v, G, inv3, rv, ev, q⟩ := done
      subst ev
      exact ⟨rv, ⟨V.ref (s.heap.objs.size + 1), G, inv3, rfl, q⟩⟩
    | _ => exact False.elim got
theorem pe_makeS (cm : Mk X.K C f) (fn : FnOk X.prog X.w X.K X.mg X.base CX k f fd ps sp) (room : Room (k + 1) X.A) (gl : Gl X x) (mgx : X.mg x = some (.ref C)) (bi : Binds X.K fd ps ds) (dv : Vals dvs ds) (px : ∀ σ, PassesAt CX X σ (E σ))
    (args : PA X (e :: es) t) (nd : (x == ("__debug__" : Str)) = false := by decide) (st : starEach (e :: es) X.env = (false, eval e X.env) :: starEach es X.env := by rfl) (pl : (backTo pos (starEach es X.env)).any (·.1) = false := by rfl) :
    PE X (.Call (.Name x p) (e :: es) [] pos) (tMakeS C sp dvs E t) := by
  refine ⟨fun pins s σ H Q inv said => wpAny_Call_Name_kw (ld_glob inv gl mgx ?_ nd)⟩
  have := args.run pos pins s σ H _ inv said
  exact PySem.W.callWith_K (h₀ := X.base) inv.ok.mod.kin cm.kp (thn this fun us s1 ⟨vs, G, inv1, rel, q⟩ => ⟨inv1.kIn, mk_run cm fn room bi dv (px σ) inv1 rel q⟩) st pl
end
/-! a list beside an empty one -/
def rNil (neg : Bool) : R2 := fun x y H Q => ∃ (p q : Addr) (xs : List V), x = .ref p ∧ y = .ref q ∧ H p = some (.lst xs) ∧ H q = some (.lst []) ∧ Q (.bl (if neg then !xs.isEmpty else xs.isEmpty)) H
section
variable {X : Cx}
theorem op_eqNil (hu : X.A.units + 64 < cLine) : OpR X (compareOp .Eq) (rNil false) := by
  intro pins s σ H x y v u Q I rx ry ⟨p, q, xs, ex, ey, h1, h2, k⟩
  subst ex ey
  cases rx
  cases ry
  obtain ⟨its, rv, pl, _⟩ := I.list (SqL.of h1)
  obtain ⟨its2, rv2, pl2, _⟩ := I.list (SqL.of h2)
  cases rv2
  cases rv with
  | nil => exact SeqAt.RcAt.lists pl.isList pl2.isList rfl (by omega) (e := fun _ => true) (fun j h => absurd h (Nat.not_lt_zero _)) _ _ _ _ ⟨.bl true, H, I, rfl, k⟩
  | cons _ _ => exact SeqAt.RcAt.lists_lengths pl.isList pl2.isList (by simp) (by omega) _ _ _ _ ⟨.bl false, H, I, rfl, k⟩
theorem op_neNil (hu : X.A.units + 64 < cLine) : OpR X (compareOp .NotEq) (rNil true) := by
  intro pins s σ H x y v u Q I rx ry ⟨p, q, xs, ex, ey, h1, h2, k⟩
  subst ex ey
  cases rx
  cases ry
  obtain ⟨its, rv, pl, _⟩ := I.list (SqL.of h1)
  obtain ⟨its2, rv2, pl2, _⟩ := I.list (SqL.of h2)
  cases rv2
  cases rv with
  | nil => exact SeqAt.RcNeAt.lists pl.isList pl2.isList rfl (by omega) (e := fun _ => true) (fun j h => absurd h (Nat.not_lt_zero _)) _ _ _ _ ⟨.bl false, H, I, rfl, k⟩
  | cons _ _ => exact SeqAt.RcNeAt.lists_lengths pl.isList pl2.isList (by simp) (by omega) _ _ _ _ ⟨.bl true, H, I, rfl, k⟩
end
/-- 'a' * 9 -/
def nine : Str := ⟨(List.replicate (9 : Int).toNat (Str.ofString "a").cps).foldl (· ++ ·) #[]⟩
theorem op_mul9 {X : Cx} : OpR X (binaryOp .Mult) (fun x y H Q => x = .str (Str.ofString "a") ∧ y = .int 9 ∧ Q (.str nine) H) := by
  intro pins s σ H x y v u Q I rx ry ⟨ex, ey, q⟩
  subst ex ey
  obtain ⟨t, rfl⟩ := (show ∃ t, v = Value.str (Str.ofString "a") t from rx)
  obtain ⟨t', rfl⟩ := (show ∃ t, u = Value.int 9 t from ry)
  refine PySem.P.mul_str (by decide) (fun _ _ => by decide +kernel) (fun _ _ => by decide +kernel) ?_
  rw [if_neg (by decide), if_neg (by decide +kernel)]
  exact ⟨by decide +kernel, ⟨.str nine, H, I.tok _, ⟨_, rfl⟩, q⟩⟩
theorem bo_repr : bootBuiltins (Str.ofString "repr") = some (.builtin "repr") := by decide +kernel
end QV
end

section
set_option Elab.async false
set_option linter.all false
set_option maxRecDepth 100000
set_option maxHeartbeats 2000000
/-! Qtop2: the law called from the top, where nothing is being written by repr and the modules stand in their place. -/
namespace QT
open PySem PySem.Spec PyProof.Rows L2 LamX
/-- the law's promise, asked of the caller's surroundings alone -/
def RunG (P : Program) (w : World) (K : PySem.W.Frag) (mg : Str → Option Value) (base : Heap) (CX : CXT) (fa : Addr) (fd : FuncData) (x : Str) (sp : Sp) : Prop :=
  ∀ (s : Shared) (H : Hp) (u : Value) (v : V) (Q : VK) (E : XK), Env0 P w K mg base callerA [] s H → BindsTo s fd ⟨[u], []⟩ [(x, u)] → RelV v u → sp [v] H Q E → codeAny (model P w) callerA (.call (.ref fa) ⟨[u], []⟩) (CR CX [] P w H s Q E) s
section
variable {P : Program} {w : World} {K : PySem.W.Frag} {mg mb : Str → Option Value} {CX : CXT} {fa a : Addr} {cs : List (Addr × Addr)} {fd : FuncData} {x : Str} {sp : Sp} {s₁ : Shared} {vs : List Value} {ns : List Int}
abbrev tabO : Obj := { cls := .none, data := .fields #[] }
abbrev lstO (vs : List Value) : Obj := { cls := .type "list", data := .seq vs.toArray }
open Classical in
/-- what is tracked at the start: the script, where it isn't written by the top, and the tables -/
noncomputable def H0 (K : PySem.W.Frag) (cs : List (Addr × Addr)) (vs : List Value) (ns : List Int) (a : Addr) : Hp := fun b =>
  if b = a ∧ K.lookup a = none then some (.frz (lstO vs) (.lst (ns.map V.int))) else if b ∈ cs.map (·.2) then some (.tbl #[]) else none
theorem h0_or {b : Addr} : (b = a ∧ K.lookup a = none ∧ H0 K cs vs ns a b = some (.frz (lstO vs) (.lst (ns.map V.int)))) ∨ (b ∈ cs.map (·.2) ∧ H0 K cs vs ns a b = some (.tbl #[])) ∨ H0 K cs vs ns a b = none := by
  unfold H0
  by_cases h1 : b = a ∧ K.lookup a = none
  · exact .inl ⟨h1.1, h1.2, if_pos h1⟩
  · rw [if_neg h1]
    by_cases h2 : b ∈ cs.map (·.2)
    · exact .inr (.inl ⟨h2, if_pos h2⟩)
    · exact .inr (.inr (if_neg h2))
theorem law_callG (KX : K.In s₁.heap) (hns : s₁.heap.Ns mainGlobals mg) (hb : s₁.heap.Ns builtinsNs mb) (hbb : ∀ x : Str, x ≠ "__name__" → mb x = bootBuiltins x) (hlim : s₁.heap.NoLimit) (hg : s₁.gens = #[])
    (hT : ∀ p ∈ cs, s₁.heap.get? p.2 = some tabO) (nT : ∀ p ∈ cs, K.lookup p.2 = none) (C : ∀ p ∈ cs, PySem.W.CodeHd s₁.heap p.1 p.2)
    (hbm : ∃ (bm : Addr) (ob : Obj), mg "__builtins__" = some (.ref bm) ∧ bm ≠ builtinsNs ∧ s₁.heap.get? bm = some ob ∧ ob.cls = .type "module" ∧ ob.dict = some builtinsNs ∧ ob.data = .plain)
    (ha : s₁.heap.get? a = some (lstO vs)) (hi : IntsAre vs ns) (hl : ns.length ≤ sizeLine)
    (hmm : ∃ mm, s₁.heap.Ns sysModules mm) (F : ∀ base : Heap, K.In base → base.Ns mainGlobals mg → (∃ mm, base.Ns sysModules mm) → (∀ p ∈ cs, TabB base mg p.1 p.2) → RunG P w K mg base CX fa fd x sp) (hbind : ∀ (s : Shared) (u : Value), BindsTo s fd ⟨[u], []⟩ [(x, u)])
    (hsp : ∀ H : Hp, (∀ p ∈ cs, H p.2 = some (.tbl #[])) → SqL K H a (ns.map V.int) → sp [.ref a] H (fun v _ => v = .bl true) fun _ _ _ => False)
    (hCX : ∀ H e s', CX [] H s₁ (fun _ _ _ => False) e s' → False) :
    codeAny (model P w) callerA (.call (.ref fa) ⟨[.ref a], []⟩) (fun r s' => r = .ok (.ret (.bool true)) ∧ OldK s₁.heap s'.heap ∧ s'.os = s₁.os ∧ AllBare s'.gens) s₁ := by
  have rv := vals_ints hi
  have hvl : vs.length = ns.length := hi.length
  have tabs : ∀ {b : Addr}, b ∈ cs.map (·.2) → ∃ p ∈ cs, p.2 = b ∧ s₁.heap.get? b = some tabO := fun hb => by
    obtain ⟨p, hp, rfl⟩ := List.mem_map.mp hb
    exact ⟨p, hp, rfl, hT p hp⟩
  have aT : a ∉ cs.map (·.2) := fun hm => by
    obtain ⟨_, _, _, e⟩ := tabs hm
    rw [ha] at e
    have e2 := congrArg Obj.data (Option.some.inj e)
    cases e2
  have hTab : ∀ p ∈ cs, H0 K cs vs ns a p.2 = some (.tbl #[]) := fun p hp => by
    have hm : p.2 ∈ cs.map (·.2) := List.mem_map.mpr ⟨p, hp, rfl⟩
    rcases h0_or (K := K) (cs := cs) (vs := vs) (ns := ns) (a := a) (b := p.2) with ⟨e, _⟩ | ⟨_, h⟩ | h
    · exact absurd (e ▸ hm) aT
    · exact h
    · unfold H0 at h
      rw [if_neg (fun q : p.2 = a ∧ K.lookup a = none => aT (q.1 ▸ hm)), if_pos hm] at h
      cases h
  have hSq : SqL K (H0 K cs vs ns a) a (ns.map V.int) := by
    cases hk : K.lookup a with
    | none => exact .inl (.inr ⟨lstO vs, by unfold H0; rw [if_pos ⟨rfl, hk⟩]⟩)
    | some o =>
      have e := KX a o hk
      rw [ha] at e
      cases e
      exact .inr ⟨_, vs.toArray, _, hk, rfl, rfl, rfl, by rw [List.size_toArray, hvl]; exact hl, by simpa using rv⟩
  have hOk : HOk P w (H0 K cs vs ns a) s₁.heap := fun b u hu => by
    rcases h0_or (K := K) (cs := cs) (vs := vs) (ns := ns) (a := a) (b := b) with ⟨rfl, _, h⟩ | ⟨hm, h⟩ | h
    · rw [h] at hu
      cases hu
      exact ⟨ha, by rw [List.length_map]; exact hl, vs, _, rv, ha⟩
    · rw [h] at hu
      cases hu
      obtain ⟨_, _, _, e⟩ := tabs hm
      exact e
    · rw [h] at hu
      cases hu
  -- what is neither the script nor a table stays in sight
  have free : ∀ {b : Addr} {o : Obj}, s₁.heap.get? b = some o → (∀ k m, o.data ≠ .seq k m) → o.data ≠ .fields #[] → H0 K cs vs ns a b = none := fun {b o} e h1 h2 => by
    rcases h0_or (K := K) (cs := cs) (vs := vs) (ns := ns) (a := a) (b := b) with ⟨rfl, _⟩ | ⟨hm, _⟩ | h
    · rw [ha] at e
      cases e
      exact absurd rfl (h1 _ _)
    · obtain ⟨_, _, _, q⟩ := tabs hm
      rw [q] at e
      cases e
      exact absurd rfl h2
    · exact h
  generalize hH : H0 K cs vs ns a = H at hTab hSq hOk free
  have sight : ∀ {b : Addr} {o : Obj}, s₁.heap.get? b = some o → H b = none → (hidT s₁.heap H).get? b = some o := fun e n => hidT_get e n
  have names : ∀ {b : Addr} {m : Str → Option Value}, s₁.heap.Ns b m → (hidT s₁.heap H).Ns b m := fun {b m} ⟨o, es, ep, e, d, r⟩ => ⟨o, es, ep, sight e (free e (fun k m z => by rw [d] at z; cases z) (fun z => by rw [d] at z; cases z)), d, r⟩
  have kept : K.In (hidT s₁.heap H) := fun b o e => sight (KX b o e) (by
    rcases h0_or (K := K) (cs := cs) (vs := vs) (ns := ns) (a := a) (b := b) with ⟨rfl, n, _⟩ | ⟨hm, _⟩ | h
    · rw [e] at n
      cases n
    · obtain ⟨p, hp, rfl, _⟩ := tabs hm
      rw [nT p hp] at e
      cases e
    · rw [← hH]
      exact h)
  have tabB : ∀ p ∈ cs, TabB (hidT s₁.heap H) mg p.1 p.2 := fun p hp => by
    have here := hT p hp
    refine ⟨?_, ?_, fun z => ?_⟩
    · obtain ⟨o, us, file, tf, flags, tg, inF, text, tt, e, q1, q2, q3, q⟩ := C p hp
      refine ⟨o, us, file, tf, flags, tg, inF, text, tt, sight e (free e (fun k m z => ?_) fun z => ?_), q1, q2, q3, q⟩
      · rw [q2] at z
        cases z
      · rw [q2] at z
        cases z
        simp at q3
    · obtain ⟨bm, ob, b1, b2, b3, b4, b5, b6⟩ := hbm
      refine ⟨bm, ob, b1, b2, fun z => ?_, fun z => ?_, sight b3 (free b3 (fun k m z => ?_) fun z => ?_), b4, b5, b6⟩
      · obtain ⟨o, es, ep, e, hd, _⟩ := hns
        rw [← z, b3] at e
        cases e
        rw [b6] at hd
        cases hd
      · rw [z, here] at b3
        cases b3
        cases b6
      · rw [b6] at z
        cases z
      · rw [b6] at z
        cases z
    · obtain ⟨o, es, ep, e, hd, _⟩ := hns
      rw [z, here] at e
      cases e
      cases hd
  have modOk : L2.Mod K mg (hidT s₁.heap H) := ⟨kept, names hns, ⟨mb, names hb, hbb⟩, let ⟨mc, h1, h2⟩ := hlim; ⟨mc, names h1, h2⟩⟩
  have env0 : Env0 P w K mg (hidT s₁.heap H) callerA [] s₁ H := ⟨rfl, modOk, fun b o e => of_hidT e, Nat.le_of_eq (hidT_size _ _), trivial, fun b hb => (nomatch hb), hOk, .of_eq hg⟩
  refine codeAny_mono (F _ kept (names hns) (hmm.imp fun _ z => names z) tabB s₁ H (.ref a) (.ref a) _ _ env0 (hbind s₁ (.ref a)) rfl (hsp H hTab hSq)) fun r s' hr => ?_
  cases r with
  | error e => exact (hCX H e s' hr).elim
  | ok fl =>
    cases fl with
    | next => exact hr.elim
    | brk => exact hr.elim
    | cont => exact hr.elim
    | ret u =>
      obtain ⟨v, G, os, bare, un, okG, ru, q⟩ := hr
      obtain rfl : v = .bl true := q
      obtain rfl : u = Value.bool true := ru
      have same : ∀ {b : Addr} {o : Obj}, b ∉ cs.map (·.2) → s₁.heap.get? b = some o → s'.heap.get? b = some o := fun {b o} nb e => by
        rcases h0_or (K := K) (cs := cs) (vs := vs) (ns := ns) (a := a) (b := b) with ⟨_, _, h⟩ | ⟨hm, _⟩ | h
        · rw [hH] at h
          obtain ⟨e1, _⟩ := hOk b _ h
          obtain ⟨e2, _⟩ := okG b _ (un.frzs b _ _ h)
          rw [e1] at e
          cases e
          exact e2
        · exact absurd hm nb
        · rw [hH] at h
          exact un.keep b o e h (fun z => nomatch z) (fun z => nomatch z)
      refine ⟨rfl, ⟨fun b o e => ?_, fun b o e => ?_⟩, os, bare⟩
      · by_cases hb : b ∈ cs.map (·.2)
        · obtain ⟨p, hp, rfl, q⟩ := tabs hb
          obtain ⟨more, z⟩ := un.tbls p.2 #[] (hTab p hp)
          rw [q] at e
          cases e
          exact .inr (.inl ⟨((C p hp).tab q).isCodeTable, rfl, #[], more, rfl, okG p.2 _ z⟩)
        · exact .inl (same hb e)
      · by_cases hb : b ∈ cs.map (·.2)
        · obtain ⟨p, hp, rfl, q⟩ := tabs hb
          obtain ⟨more, z⟩ := un.tbls p.2 #[] (hTab p hp)
          exact ⟨_, okG p.2 _ z⟩
        · exact ⟨o, same hb e⟩
end
/-- what is known of the law's promise at the head's heap -/
def LawG (l : PySem.W.OpenLaw) (w : World) (K : PySem.W.Frag) (CX : CXT) (n : Nat) (x : Str) (mg : Str → Option Value) (fa : Addr) (h : Heap) : Prop :=
  ∃ (fd : FuncData) (cs : List (Addr × Addr)) (sp : Sp), (∀ p ∈ cs, h.get? p.2 = some tabO) ∧ (∀ p ∈ cs, K.lookup p.2 = none) ∧ (∀ p ∈ cs, PySem.W.CodeHd h p.1 p.2) ∧ (∀ (s : Shared) (u : Value), BindsTo s fd ⟨[u], []⟩ [(x, u)]) ∧
    (∀ (H : Hp) (a : Addr) (ns : List Int), ns.length ≤ n → (∀ p ∈ cs, H p.2 = some (.tbl #[])) → SqL K H a (ns.map V.int) → sp [.ref a] H (fun v _ => v = .bl true) fun _ _ _ => False) ∧
    ∀ base : Heap, K.In base → base.Ns mainGlobals mg → (∃ mm, base.Ns sysModules mm) → (∀ p ∈ cs, TabB base mg p.1 p.2) → RunG l.prog w K mg base CX fa fd x sp
theorem walk_ofG {l : PySem.W.OpenLaw} {n : Nat} {q : Program} {loose : List Str} {XP : (Str → Option Value) → Heap → Prop} {YP : World → Heap → Prop} {d : DefRec} {CX : World → CXT} {x : Str}
    (hn : l.most = some n) (hn2 : n ≤ sizeLine) (hdf : d.params.defaults = []) (hi : importsNone q = true)
    (F : ∀ (w : World) (mg : Str → Option Value) (fa : Addr) (h : Heap), YP w h → h.Ns mainGlobals mg → mg d.name = some (.ref fa) → ∃ K : PySem.W.Frag, K.In h ∧ LawG l w K (CX w) n x mg fa h)
    (hCX : ∀ (w : World) (H : Hp) (s : Shared) (e : Value) (s' : Shared), CX w [] H s (fun _ _ _ => False) e s' → False) :
    PySem.W.WalkO q loose XP YP l.row.toRowW d [] (fun f vs => PySem.call f vs) := by
  refine Att.attach_callB hn hdf fun w s₀ s₁ mg mb fa o pm cd doc a vs ns G Y ho hd hcd hmg hobj hints hlen _ hg => ?_
  obtain ⟨K, KX, fd, cs, sp, h1, h2, h3, h4, h5, h6⟩ := F w mg fa _ Y G.T.g hmg
  exact law_callG KX G.T.g G.T.b G.T.builtins G.T.nolimit hg h1 h2 h3 G.T.bmain hobj hints (Nat.le_trans hlen hn2) ((G.T.seer hi).mods.imp fun _ z => z.1) h6 h4 (fun H a1 a2 => h5 H a ns hlen a1 a2) fun H e s' => hCX w H s₁ e s'
end QT
namespace QT
open PySem PySem.Spec PyProof.Rows L2 LamX
theorem guards0 {env : Env} : (callerA.deeper env).guards = some [] := by
  first
    | rfl
    | simp [callerA, Around.deeper]
section
variable {P : Program} {w : World} {K : PySem.W.Frag} {mg : Str → Option Value} {base : Heap}
/-- the promise out of the body, in the caller's surroundings -/
theorem run_ofG {x qual y : Str} {st : Stmt} {f : Addr} {fd : FuncData} {N : List Str} {k : Nat} {sp : Sp} (F : Fun K x qual st f fd) (S : FnScope N [y] (defScope st)) (hr : Room (k + 1) callerA) (len : ∀ vs H Q E, sp vs H Q E → vs.length = 1)
    (hbody : ∀ (cdv : Value) (s : Shared) (H : Hp) (vs : List V) (Q : VK) (E : XK), Room k (callerA.deeper (envOfC qual (defScope st) s.heap.objs.size f cdv)) → sp vs H Q E →
      ∃ t, PSs (cxOf CX0 P w K mg base N qual (defScope st) f cdv callerA [] s H E).nox (defBody st) t ∧ t { nx := fun _ H' => Q .non H', rt := Q } (start N vs) H) : RunG P w K mg base CX0 f fd y sp := by
  obtain ⟨oc, od, kV, doc, pm, an, cdv, ct, osl, rfl, lk, hcd⟩ := F.ex
  intro s H u v Q E e0 hb r hsp
  have stay : ∀ b o, base.get? b = some o → s.heap.get? b = some o := fun b o e => (e0.bs b o e).1
  have kin : K.In s.heap := e0.mod.kin.keeps stay
  have where_ : ∀ z ∈ [(y, u)], (defScope st).names.lookup z.1 = some .local ∨ ((defScope st).names.lookup z.1 = some .cell ∧ ((cellsFrom (s.heap.objs.size + 1) (defScope st).names []).lookup z.1).isSome = true) := fun z hz => by
    have e : z = (y, u) := by simpa using hz
    rcases S.par z.1 (by rw [e]; exact List.mem_singleton.mpr rfl) with q | q
    · exact .inl q
    · exact .inr ⟨q, PySem.W.cellsFrom_some _ _ _ (.inl q)⟩
  refine codeAny_call_function hr.depth (kin _ _ lk) rfl S.co S.gen rfl (PySem.W.codeRec_of kin hcd) (hb _ _ _ _ (wpAny_newFunctionEnv_cells S.kind where_ fun env he s1 q1 => ?_))
  subst he
  refine ⟨(e0.mod.nolimit.keeps stay).keeps q1.toInCall.keep, codeAny_func ?_⟩
  obtain ⟨t, ht, hq⟩ := hbody cdv s H [v] Q E (hr.deeper _) hsp
  have I : Inv (cxOf CX0 P w K mg base N qual (defScope st) f cdv callerA [] s H E) [] (start N [v]) H s1 := inv_start (ps := [y]) (us := [u]) S hr.hd e0 rfl (.cons r .nil) q1
  refine wpAny_mono (ht.nox.run [] s1 (start N [v]) H _ I hq) (fun fl s' hs => ?_) fun _ _ hs => hs
  cases fl with
  | ret z =>
    obtain ⟨v', τ, G, J, rv, q⟩ := hs
    exact ⟨v', G, J.os, J.bare, J.base, J.hok, rv, q⟩
  | next =>
    obtain ⟨τ, G, J, q⟩ := hs
    exact ⟨.non, G, J.os, J.bare, J.base, J.hok, rfl, q⟩
  | brk =>
    obtain ⟨τ, G, J, q⟩ := hs
    exact q.elim
  | cont =>
    obtain ⟨τ, G, J, q⟩ := hs
    exact q.elim
end
end QT
end

section
set_option Elab.async false
set_option linter.all false
set_option maxRecDepth 100000
set_option maxHeartbeats 4000000
/-! Qbox: dicts with tuples as keys: setdefault, values; an own __getitem__; methods in a try's body. -/
namespace QM2
open PySem PySem.Spec PyProof.Rows L2
theorem pgetR {α β : Type} {F : α → β → Prop} : ∀ {l₁ : List α} {l₂ : List β} {j : Nat} {x : β}, Paired F l₁ l₂ → l₂[j]? = some x → ∃ y, l₁[j]? = some y ∧ F y x
  | _, _, j, x, .nil, h => by simp at h
  | _, _, 0, x, .cons (a := y) f _, h => by
    cases h
    exact ⟨y, rfl, f⟩
  | _, _, j + 1, x, .cons _ r, h => by
    rw [List.getElem?_cons_succ] at h ⊢
    exact pgetR r h
section
variable {X : Cx}
/-- d.setdefault(b, v), b a tuple of texts -/
def rSetdT : V → List V → Hp → VK → Prop := fun x xs H Q => ∃ (a : Addr) (kvs : List (List L2.Key × V)) (k : List L2.Key) (b : Addr) (v : V), x = .ref a ∧ xs = [.ref b, v] ∧ H a = some (.dT kvs) ∧ H b = some (.tup (k.map kV)) ∧ kvs.length < sizeLine ∧
  (∀ u, valV kvs k = some u → Q u H) ∧ (valV kvs k = none → Q v (upd H a (.dT (putK kvs k v))))
theorem mt_setdT (hu : X.A.units + 64 < cLine) : MtR X "dict.setdefault" rSetdT := by
  intro pins s σ H x xs v us Q I rx rxs h
  obtain ⟨a, kvs, k, b, d, rfl, rfl, ha, hb, hl, q1, q2⟩ := h
  cases rx
  obtain ⟨u1, u2, rfl, r1, r2⟩ := vals2 rxs
  cases r1
  obtain ⟨z, hd, xs', rel, dd⟩ := dt_of I.hok ha
  have hz : xs'.length ≤ sizeLine := by rw [← Paired.length rel]; exact z
  refine call_setdefault_heap (hsz := hz) (tupleKind_room_in1 (by omega)) (key_of I.hok hb) hd dd (fun p hp => ?_) fun hn h' dd' hs => ?_
  · have r := rel.val k
    rw [hp] at r
    obtain ⟨v0, ev, rv⟩ : ∃ v0, valV kvs k = some v0 ∧ RelV v0 p.2 := by
      cases ev : valV kvs k with
      | none =>
        rw [ev] at r
        exact (show False from r).elim
      | some v0 =>
        rw [ev] at r
        exact ⟨v0, rfl, r⟩
    exact ⟨v0, H, I.tok _, rv, q1 v0 ev⟩
  · have r := rel.val k
    rw [hn] at r
    have e : valV kvs k = none := by
      cases ev : valV kvs k with
      | none => rfl
      | some v0 =>
        rw [ev] at r
        exact (show False from r).elim
    have hl2 : (putK kvs k d).length ≤ sizeLine := by have := length_putK kvs k d; omega
    obtain ⟨o, es, ep, hq, h2, h3, h4, _, h5⟩ := dd'
    refine ⟨d, _, d_write (ob := .dT (putK kvs k d)) I (by rw [ha]; exact True.intro) hs ⟨o, hq⟩ ⟨hl2, hd, _, (rel.put k hb r2).keeps fun c ys ec => ?_, o, es, ep, hq, h2, h3, h4, h5⟩, r2, q2 e⟩
    rw [upd_ne (ne_of ec ha (fun z => nomatch z))]
    exact ec
/-- the view d.values() at p -/
def valuesO (p d : Addr) : HO := .ext fun h => h.IsValuesView p d
def rValuesT : V → List V → Hp → VK → Prop := fun x xs H Q => ∃ (a : Addr) (kvs : List (List L2.Key × V)), x = .ref a ∧ xs = [] ∧ H a = some (.dT kvs) ∧ ∀ p, H p = none → Q (.ref p) (upd H p (valuesO p a))
theorem mt_valuesT : MtR X "dict.values" rValuesT := by
  intro pins s σ H x xs v us Q I rx rxs h
  obtain ⟨a, kvs, rfl, rfl, ha, q⟩ := h
  cases rx
  cases rxs
  obtain ⟨z, hd, xs', rel, o, es, ep, ho, hx, hdat, _⟩ := dt_of I.hok ha
  refine call_meetsIn PySem.F.slot_dict_values (⟨o, ho, hx.1⟩ : s.TypeIs (.ref a) "dict") PySem.F.entry_dict_values (PySem.F.args_dict_values_1 _) (PySem.meets_dict_values_raw a hd) ⟨⟨es, ep, o, ho, hx, hdat⟩, ?_⟩
  have hf : H s.heap.objs.size = none := I.hok.fresh (Nat.le_refl _)
  have eg : (s.heap.push { cls := .type "dict_values", data := .fields #[.ref a] }).get? s.heap.objs.size = some { cls := .type "dict_values", data := .fields #[.ref a] } := Heap.get?_push_size _ rfl
  exact ⟨.ref s.heap.objs.size, upd H s.heap.objs.size (valuesO s.heap.objs.size a), I.laid (t' := s.toks) (fun b u e => Heap.get?_push_of_some _ e) (Nat.le_refl _) ⟨⟨_, eg, rfl, rfl⟩, ⟨_, eg⟩, fun h1 h2 x k => let ⟨o, ho, r⟩ := x; ⟨o, k o ho, r⟩⟩, rfl, q _ hf⟩
/-- list(view) -/
def rListVT : List V → Hp → VK → Prop := fun xs H Q => ∃ p a kvs, xs = [.ref p] ∧ H p = some (valuesO p a) ∧ H a = some (.dT kvs) ∧ ∀ q, H q = none → Q (.ref q) (upd H q (.lst (kvs.map (·.2))))
theorem call_listVT (hc : X.calm = true) : CallR X (.type "list") rListVT := by
  intro pins s σ H xs us Q I r h
  obtain ⟨p, a, kvs, rfl, hp, ha, q⟩ := h
  obtain ⟨u, rfl, rx⟩ := r.one
  cases rx
  have hv : s.heap.IsValuesView p a := (show ObjOk X.prog X.w H s.heap p (valuesO p a) from I.hok p _ hp).1
  obtain ⟨z, hd, xs', rel, dd⟩ := dt_of I.hok ha
  obtain ⟨es, ep, raw, hsz, hat⟩ := PySem.Heap.DictOfH.raw dd
  have hl : kvs.length = xs'.length := Paired.length rel
  refine PySem.W.kdl_call (PySem.KdlSrc.rawValues) (I.ok.hd hc) ⟨hv, raw⟩ (by omega) fun h' tk acc' c' hkeep hS hacc => ?_
  refine ⟨.ref s.heap.objs.size, upd H s.heap.objs.size (.lst (kvs.map (·.2))), I.laid hkeep (Nat.le_refl _) (show ObjOk X.prog X.w _ _ _ (.lst (kvs.map (·.2))) from ⟨?_, acc'.toList, c', ?_, ?_⟩), rfl, q _ (I.hok.fresh (Nat.le_refl _))⟩
  · rw [List.length_map]; exact z
  · have el : acc'.toList.length = acc'.size := by simp
    refine vals_of_at (by rw [List.length_map, el, hacc.1, hl, hsz]) fun j x w h1 h2 => ?_
    obtain ⟨hj, rfl⟩ := hacc.2 j w (by rw [← Array.getElem?_toList]; exact h2)
    obtain ⟨y, hy, _, e2, _⟩ := hat j hj
    rw [e2]
    obtain ⟨kv, hk, rr⟩ := pgetR rel hy
    rw [List.getElem?_map, hk] at h1
    cases h1
    exact rr.2.2
  · rw [Array.toArray_toList]; exact hS
end
/-! an own __getitem__ -/
section
variable {X : Cx} {CX : CXT} {k : Nat} {f C : Addr} {fd : FuncData} {ps : List Str} {sp : Sp} {E : XK} {a b : Expr} {ta tb : TE} {pos : Pos}
def tIxO (C : Addr) (sp : Sp) (E : XK) (ta tb : TE) : TE := fun σ H Q => ta σ H fun x H1 => tb σ H1 fun y H2 => ∃ p dx fs, x = .ref p ∧ H2 p = some (.ins C dx fs) ∧ sp [.ref p, y] H2 Q E
theorem pe_ixO (F : FnOk X.prog X.w X.K X.mg X.base CX k f fd ps sp) (hm : Meth X.K C "__getitem__" f) (hf : PySem.W.fnIn X.K f = true) (hr : Room (k + 1) X.A) (hb : Binds X.K fd ps []) (hx : Passes CX X E) (ha : PE X a ta) (hbb : PE X b tb)
    (hsl : ∀ (x : Addr) (i : Value), subscripted b true (.ref x) i = runValue (.builtin "lifetime.subscript" ⟨[.ref x, i], []⟩)) :
    PE X (.Subscript a b pos) (tIxO C sp E ta tb) := by
  refine ⟨fun pins s σ H Q I h => ?_⟩
  refine Subscript_ (binT ha hbb I (R := fun x y H2 => ∃ p dx fs, x = .ref p ∧ H2 p = some (.ins C dx fs) ∧ sp [.ref p, y] H2 Q E) h fun v u s2 x y H2 I2 rx ry q => ?_)
  obtain ⟨p, dx, fs, rfl, hp, q⟩ := q
  obtain rfl : v = Value.ref p := rx
  obtain ⟨mA, J, _⟩ := ins_get I2.hok hp
  obtain ⟨od, J, _⟩ := J.look
  obtain ⟨m, hF⟩ := I2.fr
  refine PySem.W.sub_K hF I2.ok.mod.kin J hm.at_ hf hm.fn ?_ (hsl p u)
  exact QO.run_in (A := X.A.in1) (vs := [.ref p, y]) ⟨hr.in1, rfl⟩ F hb hx I2 (.cons rfl (.cons ry .nil)) q
end
/-! methods in the body of a try -/
section
variable {X : Cx} {CX : CXT} {k : Nat} {f C : Addr} {fd : FuncData} {ps : List Str} {sp : Sp} {E : L2.St → XK} {m : Str} {pos apos : Pos} {o : Expr} {ta : TE}
def tMethS0 (C : Addr) (m : Str) (sp : Sp) (E : L2.St → XK) (ta : TE) : TE := fun σ H Q => ta σ H fun x H1 => ∃ a dx fs, x = .ref a ∧ H1 a = some (.ins C dx fs) ∧ fs.lookup m = none ∧ sp [.ref a] H1 Q (E σ)
theorem pe_methS0 {pl : Sem Bool} (he : PE X o ta) (c : Cls X.K C) (hm : Meth X.K C m f) (F : FnOk X.prog X.w X.K X.mg X.base CX k f fd ps sp) (hr : Room k X.A) (hb : Binds X.K fd ps []) (hx : ∀ σ, PassesAt CX X σ (E σ))
    (ht : eval (.Call (.Attribute o m apos) [] [] pos) X.env = (do
      let ov ← eval o X.env
      standAt apos.atName
      let (f, first) ← holding [ov] (getMethod ov m pl)
      callWith pos f first (backTo pos (starEach [] X.env)) (backToKw pos (keywordEach [] X.env))) := by rfl) :
    PE X (.Call (.Attribute o m apos) [] [] pos) (tMethS0 C m sp E ta) := by
  refine ⟨fun pins s σ H Q I h => ?_⟩
  refine PySem.W.methodCall_KW (pl := pl) (thn (he.run pins s σ H _ I h) fun u s1 ⟨x, H1, I1, rx, a, dx, fs, ex, ea, l, q⟩ => ?_) ht
  subst ex
  obtain rfl : u = Value.ref a := rx
  refine getmeth_ok I1 ea c hm l ?_
  exact PySem.W.callWith_K0 (first := [.ref a]) I1.kIn hm.kp (run_fnS (us := [.ref a]) (vs := [.ref a]) F hr hb (hx σ) I1 (.cons rfl .nil) q)
end
/-! raise X(), X without an __init__ of its own -/
def veMro : List Value := [.type "ValueError", .type "Exception", .type "BaseException", .type "object"]
structure NewX (K : PySem.W.Frag) (C : Addr) : Prop where
  ei : PySem.W.excIn K C veMro "ValueError.__new__" = true
  kp : PySem.W.keepIn K (.ref C) = true
  sub : PySem.W.subIn K (.ref C) (.type "BaseException") = some true
  ty : PySem.W.typeIn K (.ref C) = some (.type "type")
  exc : ExcC K C
def newXB (K : PySem.W.Frag) (C : Addr) : Bool := PySem.W.excIn K C veMro "ValueError.__new__" && (PySem.W.keepIn K (.ref C) && (decide (PySem.W.subIn K (.ref C) (.type "BaseException") = some true) && (decide (PySem.W.typeIn K (.ref C) = some (.type "type")) && QX.excB K C)))
theorem newXB_ok {K : PySem.W.Frag} {C : Addr} (h : newXB K C = true) : NewX K C := by
  unfold newXB at h
  obtain ⟨h1, h⟩ := Bool.and_eq_true_iff.mp h
  obtain ⟨h2, h⟩ := Bool.and_eq_true_iff.mp h
  obtain ⟨h3, h⟩ := Bool.and_eq_true_iff.mp h
  obtain ⟨h4, h5⟩ := Bool.and_eq_true_iff.mp h
  exact ⟨h1, h2, of_decide_eq_true h3, of_decide_eq_true h4, (QX.excB_ok h5).1⟩
theorem pmk_own0 {X : Cx} {C : Addr} {x : Str} {p pos : Pos} (n : NewX X.K C) (hg : Gl X x) (gC : X.mg x = some (.ref C)) (hdb : (x == ("__debug__" : Str)) = false := by decide) :
    PMk X (.Call (.Name x p) [] [] pos) (fun _ H Q => Q (.ref C) none H) := by
  intro pins s σ H Q I h
  refine wpAny_Call_Name_kw (ld_glob I hg gC ?_ hdb)
  refine PySem.W.callWith_K0 I.kIn n.kp ?_
  obtain ⟨bm, N, nm, qn, bs, hdct, sn, sub, ab, col, dd, k0, k1, k2, k3, k5, mN, hC, hN, hni, T⟩ := exc_obj I.kIn n.ei
  refine wpAny_call_exc_subT PySem.F.excBase_ValueError T hC hN hni (fun h' e hm => ?_) (by show 0 ≤ sizeLine; omega)
  exact mk_of I hm (raises_own n.sub n.ty) h (I.hok.gone hm.new)
theorem fn_of {K : PySem.W.Frag} {x qual : Str} {st : Stmt} {f : Addr} {fd : FuncData} (F : L2.Fun K x qual st f fd) : PySem.W.fnIn K f = true := by
  obtain ⟨oc, od, kV, doc, pm, an, cdv, ct, osl, _, hl, _⟩ := F.ex
  unfold PySem.W.fnIn
  rw [hl]
end QM2
end

section
set_option Elab.async false
set_option linter.all false
set_option maxRecDepth 100000
set_option maxHeartbeats 4000000
namespace Law
open PySem PySem.Spec PyProof.Rows L2 LamX QB QM
def topS (i : Nat) : Stmt := PySem.Challenge.pw_subjecttags_k50_whole_mailboxes.main.body.getD i (.Pass ⟨0, 0, 0, 0⟩)
abbrev s__wall : Stmt := topS 0
theorem sc__wall : FnScope ["k"] ["k"] (defScope s__wall) := ⟨rfl, rfl, rfl, by decide +kernel, rfl, by decide +kernel, by decide +kernel⟩
abbrev s_InvalidTags___init__ : Stmt := inClass (topS 3) 0
theorem sc_InvalidTags___init__ : FnScope ["self", "index"] ["self", "index"] (defScope s_InvalidTags___init__) := ⟨rfl, rfl, rfl, by decide +kernel, rfl, by decide +kernel, by decide +kernel⟩
abbrev s_InvalidSubject___init__ : Stmt := inClass (topS 4) 0
theorem sc_InvalidSubject___init__ : FnScope ["self", "index"] ["self", "index"] (defScope s_InvalidSubject___init__) := ⟨rfl, rfl, rfl, by decide +kernel, rfl, by decide +kernel, by decide +kernel⟩
abbrev s_InvalidEater___init__ : Stmt := inClass (topS 5) 0
theorem sc_InvalidEater___init__ : FnScope ["self", "index"] ["self", "index"] (defScope s_InvalidEater___init__) := ⟨rfl, rfl, rfl, by decide +kernel, rfl, by decide +kernel, by decide +kernel⟩
abbrev s_InvalidNumber___init__ : Stmt := inClass (topS 6) 0
theorem sc_InvalidNumber___init__ : FnScope ["self", "number"] ["self", "number"] (defScope s_InvalidNumber___init__) := ⟨rfl, rfl, rfl, by decide +kernel, rfl, by decide +kernel, by decide +kernel⟩
abbrev s_InvalidPrograms___init__ : Stmt := inClass (topS 7) 0
theorem sc_InvalidPrograms___init__ : FnScope ["self", "index"] ["self", "index"] (defScope s_InvalidPrograms___init__) := ⟨rfl, rfl, rfl, by decide +kernel, rfl, by decide +kernel, by decide +kernel⟩
abbrev s_TooMany___init__ : Stmt := inClass (topS 10) 0
theorem sc_TooMany___init__ : FnScope ["self", "limit"] ["self", "limit"] (defScope s_TooMany___init__) := ⟨rfl, rfl, rfl, by decide +kernel, rfl, by decide +kernel, by decide +kernel⟩
abbrev s_is_number : Stmt := topS 18
theorem sc_is_number : FnScope ["x", "least", "most"] ["x", "least", "most"] (defScope s_is_number) := ⟨rfl, rfl, rfl, by decide +kernel, rfl, by decide +kernel, by decide +kernel⟩
abbrev s_is_list : Stmt := topS 19
theorem sc_is_list : FnScope ["x", "least", "most"] ["x", "least", "most"] (defScope s_is_list) := ⟨rfl, rfl, rfl, by decide +kernel, rfl, by decide +kernel, by decide +kernel⟩
abbrev s_is_name : Stmt := topS 20
theorem sc_is_name : FnScope ["x", "letter"] ["x"] (defScope s_is_name) := ⟨rfl, rfl, rfl, by decide +kernel, rfl, by decide +kernel, by decide +kernel⟩
abbrev s_is_tag : Stmt := topS 21
theorem sc_is_tag : FnScope ["tags", "x"] ["tags", "x"] (defScope s_is_tag) := ⟨rfl, rfl, rfl, by decide +kernel, rfl, by decide +kernel, by decide +kernel⟩
abbrev s_is_subject : Stmt := topS 22
theorem sc_is_subject : FnScope ["tags", "x", "tag"] ["tags", "x"] (defScope s_is_subject) := ⟨rfl, rfl, rfl, by decide +kernel, rfl, by decide +kernel, by decide +kernel⟩
abbrev s_is_standing : Stmt := topS 23
theorem sc_is_standing : FnScope ["tags", "many", "x", "word", "ways", "way"] ["tags", "many", "x"] (defScope s_is_standing) := ⟨rfl, rfl, rfl, by decide +kernel, rfl, by decide +kernel, by decide +kernel⟩
abbrev s_check_tags : Stmt := topS 24
theorem sc_check_tags : FnScope ["tags", "at", "tag"] ["tags"] (defScope s_check_tags) := ⟨rfl, rfl, rfl, by decide +kernel, rfl, by decide +kernel, by decide +kernel⟩
abbrev s_check_word : Stmt := topS 25
theorem sc_check_word : FnScope ["tags", "word", "most", "at", "tag"] ["tags", "word", "most"] (defScope s_check_word) := ⟨rfl, rfl, rfl, by decide +kernel, rfl, by decide +kernel, by decide +kernel⟩
abbrev s_check_standings : Stmt := topS 26
theorem sc_check_standings : FnScope ["tags", "standings", "at", "standing"] ["tags", "standings"] (defScope s_check_standings) := ⟨rfl, rfl, rfl, by decide +kernel, rfl, by decide +kernel, by decide +kernel⟩
abbrev s_check_number : Stmt := topS 27
theorem sc_check_number : FnScope ["number", "most"] ["number", "most"] (defScope s_check_number) := ⟨rfl, rfl, rfl, by decide +kernel, rfl, by decide +kernel, by decide +kernel⟩
abbrev s_walked : Stmt := topS 29
theorem sc_walked : FnScope ["tags", "standings", "word", "at", "many", "tag", "way"] ["tags", "standings", "word"] (defScope s_walked) := ⟨rfl, rfl, rfl, by decide +kernel, rfl, by decide +kernel, by decide +kernel⟩
abbrev s_made : Stmt := topS 30
theorem sc_made : FnScope ["tags", "standings", "subject", "at", "many"] ["tags", "standings", "subject"] (defScope s_made) := ⟨rfl, rfl, rfl, by decide +kernel, rfl, by decide +kernel, by decide +kernel⟩
abbrev s_is_settled_at : Stmt := topS 31
theorem sc_is_settled_at : FnScope ["standing", "way"] ["standing"] (defScope s_is_settled_at) := ⟨rfl, rfl, rfl, by decide +kernel, rfl, by decide +kernel, by decide +kernel⟩
abbrev s_is_made_at : Stmt := topS 32
theorem sc_is_made_at : FnScope ["tags", "standing", "subject", "word", "ways", "stops", "tag", "way"] ["tags", "standing", "subject"] (defScope s_is_made_at) := ⟨rfl, rfl, rfl, by decide +kernel, rfl, by decide +kernel, by decide +kernel⟩
abbrev s_copied : Stmt := topS 33
theorem sc_copied : FnScope ["standings", "word", "ways"] ["standings"] (defScope s_copied) := ⟨rfl, rfl, rfl, by decide +kernel, rfl, by decide +kernel, by decide +kernel⟩
abbrev s_without_needless_ways : Stmt := topS 34
theorem sc_without_needless_ways : FnScope ["tags", "standings", "needed", "settled", "at", "word", "ways", "place", "tag", "way"] ["tags", "standings"] (defScope s_without_needless_ways) := ⟨rfl, rfl, rfl, by decide +kernel, rfl, by decide +kernel, by decide +kernel⟩
abbrev s_numbered : Stmt := topS 35
theorem sc_numbered : FnScope ["marks", "numbers", "told", "mark"] ["marks"] (defScope s_numbered) := ⟨rfl, rfl, rfl, by decide +kernel, rfl, by decide +kernel, by decide +kernel⟩
abbrev s_parted : Stmt := topS 36
theorem sc_parted : FnScope ["classes", "standings", "marks", "number", "_", "ways", "way"] ["classes", "standings"] (defScope s_parted) := ⟨rfl, rfl, rfl, by decide +kernel, rfl, by decide +kernel, by decide +kernel⟩
abbrev s_alike_classes : Stmt := topS 37
theorem sc_alike_classes : FnScope ["standings", "classes", "many", "word", "_"] ["standings"] (defScope s_alike_classes) := ⟨rfl, rfl, rfl, by decide +kernel, rfl, by decide +kernel, by decide +kernel⟩
abbrev s_in_order_met : Stmt := topS 38
theorem sc_in_order_met : FnScope ["standings", "classes", "numbers", "met", "told", "beside", "ways", "way"] ["standings", "classes"] (defScope s_in_order_met) := ⟨rfl, rfl, rfl, by decide +kernel, rfl, by decide +kernel, by decide +kernel⟩
abbrev s_least_form : Stmt := topS 39
theorem sc_least_form : FnScope ["tags", "standings", "needed"] ["tags", "standings"] (defScope s_least_form) := ⟨rfl, rfl, rfl, by decide +kernel, rfl, by decide +kernel, by decide +kernel⟩
abbrev s_Eater___init__ : Stmt := inClass (topS 41) 0
theorem sc_Eater___init__ : FnScope ["self", "tags", "standings"] ["self", "tags", "standings"] (defScope s_Eater___init__) := ⟨rfl, rfl, rfl, by decide +kernel, rfl, by decide +kernel, by decide +kernel⟩
abbrev s_Eater___len__ : Stmt := inClass (topS 41) 1
theorem sc_Eater___len__ : FnScope ["self"] ["self"] (defScope s_Eater___len__) := ⟨rfl, rfl, rfl, by decide +kernel, rfl, by decide +kernel, by decide +kernel⟩
abbrev s_Eater___eq__ : Stmt := inClass (topS 41) 2
theorem sc_Eater___eq__ : FnScope ["self", "other"] ["self", "other"] (defScope s_Eater___eq__) := ⟨rfl, rfl, rfl, by decide +kernel, rfl, by decide +kernel, by decide +kernel⟩
abbrev s_Eater___contains__ : Stmt := inClass (topS 41) 3
theorem sc_Eater___contains__ : FnScope ["self", "x", "standing"] ["self", "x"] (defScope s_Eater___contains__) := ⟨rfl, rfl, rfl, by decide +kernel, rfl, by decide +kernel, by decide +kernel⟩
abbrev s_Eater_tags : Stmt := inClass (topS 41) 4
theorem sc_Eater_tags : FnScope ["self"] ["self"] (defScope s_Eater_tags) := ⟨rfl, rfl, rfl, by decide +kernel, rfl, by decide +kernel, by decide +kernel⟩
abbrev s_Eater_standings : Stmt := inClass (topS 41) 5
theorem sc_Eater_standings : FnScope ["self"] ["self"] (defScope s_Eater_standings) := ⟨rfl, rfl, rfl, by decide +kernel, rfl, by decide +kernel, by decide +kernel⟩
abbrev s_Eater_on : Stmt := inClass (topS 41) 6
theorem sc_Eater_on : FnScope ["self", "subject"] ["self", "subject"] (defScope s_Eater_on) := ⟨rfl, rfl, rfl, by decide +kernel, rfl, by decide +kernel, by decide +kernel⟩
abbrev s_Eater_settled : Stmt := inClass (topS 41) 7
theorem sc_Eater_settled : FnScope ["self", "word", "at", "many"] ["self", "word"] (defScope s_Eater_settled) := ⟨rfl, rfl, rfl, by decide +kernel, rfl, by decide +kernel, by decide +kernel⟩
abbrev s_Eater_then : Stmt := inClass (topS 41) 8
theorem sc_Eater_then : FnScope ["self", "other"] ["self", "other"] (defScope s_Eater_then) := ⟨rfl, rfl, rfl, by decide +kernel, rfl, by decide +kernel, by decide +kernel⟩
abbrev s_Eater_power : Stmt := inClass (topS 41) 9
theorem sc_Eater_power : FnScope ["self", "times"] ["self", "times"] (defScope s_Eater_power) := ⟨rfl, rfl, rfl, by decide +kernel, rfl, by decide +kernel, by decide +kernel⟩
abbrev s_check_same_tags : Stmt := topS 42
theorem sc_check_same_tags : FnScope ["one", "other"] ["one", "other"] (defScope s_check_same_tags) := ⟨rfl, rfl, rfl, by decide +kernel, rfl, by decide +kernel, by decide +kernel⟩
abbrev s_check_programs : Stmt := topS 45
theorem sc_check_programs : FnScope ["programs", "at", "eater"] ["programs"] (defScope s_check_programs) := ⟨rfl, rfl, rfl, by decide +kernel, rfl, by decide +kernel, by decide +kernel⟩
abbrev s_Mailbox___init__ : Stmt := inClass (topS 47) 0
theorem sc_Mailbox___init__ : FnScope ["self", "programs", "key"] ["self", "programs", "key"] (defScope s_Mailbox___init__) := ⟨rfl, rfl, rfl, by decide +kernel, rfl, by decide +kernel, by decide +kernel⟩
abbrev s_Mailbox___len__ : Stmt := inClass (topS 47) 1
theorem sc_Mailbox___len__ : FnScope ["self"] ["self"] (defScope s_Mailbox___len__) := ⟨rfl, rfl, rfl, by decide +kernel, rfl, by decide +kernel, by decide +kernel⟩
abbrev s_Mailbox___getitem__ : Stmt := inClass (topS 47) 2
theorem sc_Mailbox___getitem__ : FnScope ["self", "number"] ["self", "number"] (defScope s_Mailbox___getitem__) := ⟨rfl, rfl, rfl, by decide +kernel, rfl, by decide +kernel, by decide +kernel⟩
abbrev s_Mailbox___iter__ : Stmt := inClass (topS 47) 3
theorem sc_Mailbox___iter__ : FnScope ["self"] ["self"] (defScope s_Mailbox___iter__) := ⟨rfl, rfl, rfl, by decide +kernel, rfl, by decide +kernel, by decide +kernel⟩
abbrev s_Mailbox_begin : Stmt := inClass (topS 47) 4
theorem sc_Mailbox_begin : FnScope ["self", "subject"] ["self", "subject"] (defScope s_Mailbox_begin) := ⟨rfl, rfl, rfl, by decide +kernel, rfl, by decide +kernel, by decide +kernel⟩
abbrev s_Mailbox_answer : Stmt := inClass (topS 47) 5
theorem sc_Mailbox_answer : FnScope ["self", "number", "program"] ["self", "number", "program"] (defScope s_Mailbox_answer) := ⟨rfl, rfl, rfl, by decide +kernel, rfl, by decide +kernel, by decide +kernel⟩
abbrev s_Mailbox_key_of : Stmt := inClass (topS 47) 6
theorem sc_Mailbox_key_of : FnScope ["self", "number"] ["self", "number"] (defScope s_Mailbox_key_of) := ⟨rfl, rfl, rfl, by decide +kernel, rfl, by decide +kernel, by decide +kernel⟩
abbrev s_Mailbox_talk : Stmt := inClass (topS 47) 7
theorem sc_Mailbox_talk : FnScope ["self", "number"] ["self", "number"] (defScope s_Mailbox_talk) := ⟨rfl, rfl, rfl, by decide +kernel, rfl, by decide +kernel, by decide +kernel⟩
abbrev s_Mailbox_talks : Stmt := inClass (topS 47) 8
theorem sc_Mailbox_talks : FnScope ["self", "found", "number", "_", "key"] ["self"] (defScope s_Mailbox_talks) := ⟨rfl, rfl, rfl, by decide +kernel, rfl, by decide +kernel, by decide +kernel⟩
abbrev s_Mailbox_tried : Stmt := inClass (topS 47) 9
theorem sc_Mailbox_tried : FnScope ["self", "number", "program"] ["self", "number", "program"] (defScope s_Mailbox_tried) := ⟨rfl, rfl, rfl, by decide +kernel, rfl, by decide +kernel, by decide +kernel⟩
abbrev s_Mailbox_undo : Stmt := inClass (topS 47) 10
theorem sc_Mailbox_undo : FnScope ["self"] ["self"] (defScope s_Mailbox_undo) := ⟨rfl, rfl, rfl, by decide +kernel, rfl, by decide +kernel, by decide +kernel⟩
abbrev s_Mailbox_trial : Stmt := inClass (topS 47) 11
theorem sc_Mailbox_trial : FnScope ["self"] ["self"] (defScope s_Mailbox_trial) := ⟨rfl, rfl, rfl, by decide +kernel, rfl, by decide +kernel, by decide +kernel⟩
abbrev s_Mailbox__come : Stmt := inClass (topS 47) 12
theorem sc_Mailbox__come : FnScope ["self", "subject"] ["self", "subject"] (defScope s_Mailbox__come) := ⟨rfl, rfl, rfl, by decide +kernel, rfl, by decide +kernel, by decide +kernel⟩
abbrev s_Mailbox__answered : Stmt := inClass (topS 47) 13
theorem sc_Mailbox__answered : FnScope ["self", "number", "program", "subject"] ["self", "number", "program"] (defScope s_Mailbox__answered) := ⟨rfl, rfl, rfl, by decide +kernel, rfl, by decide +kernel, by decide +kernel⟩
abbrev s_Mailbox__with_key : Stmt := inClass (topS 47) 14
theorem sc_Mailbox__with_key : FnScope ["self", "key", "number", "_", "other"] ["self", "key"] (defScope s_Mailbox__with_key) := ⟨rfl, rfl, rfl, by decide +kernel, rfl, by decide +kernel, by decide +kernel⟩
abbrev s__law_mixed : Stmt := topS 49
theorem sc__law_mixed : FnScope ["cell", "k", "number"] ["cell", "k"] (defScope s__law_mixed) := ⟨rfl, rfl, rfl, by decide +kernel, rfl, by decide +kernel, by decide +kernel⟩
abbrev s__law_pile : Stmt := topS 50
theorem sc__law_pile : FnScope ["script", "k", "cell", "great"] ["script", "k"] (defScope s__law_pile) := ⟨rfl, rfl, rfl, by decide +kernel, rfl, by decide +kernel, by decide +kernel⟩
abbrev s__law_take : Stmt := topS 51
theorem sc__law_take : FnScope ["pile", "many", "digit"] ["pile", "many"] (defScope s__law_take) := ⟨rfl, rfl, rfl, by decide +kernel, rfl, by decide +kernel, by decide +kernel⟩
abbrev s__law_order : Stmt := topS 52
theorem sc__law_order : FnScope ["pile", "many", "left", "found"] ["pile", "many"] (defScope s__law_order) := ⟨rfl, rfl, rfl, by decide +kernel, rfl, by decide +kernel, by decide +kernel⟩
abbrev s__law_tags : Stmt := topS 53
theorem sc__law_tags : FnScope ["pile", "many", "letters", "plain", "at", "stem", "shift", "pace", "k"] ["pile", "many"] (defScope s__law_tags) := ⟨rfl, rfl, rfl, by decide +kernel, rfl, by decide +kernel, by decide +kernel⟩
abbrev s__law_word : Stmt := topS 54
theorem sc__law_word : FnScope ["pile", "tags", "most", "turn"] ["pile", "tags", "most"] (defScope s__law_word) := ⟨rfl, rfl, rfl, by decide +kernel, rfl, by decide +kernel, by decide +kernel⟩
abbrev s__law_standings : Stmt := topS 55
theorem sc__law_standings : FnScope ["pile", "tags", "most", "long", "many", "found", "k", "ways", "tag"] ["pile", "tags", "most", "long"] (defScope s__law_standings) := ⟨rfl, rfl, rfl, by decide +kernel, rfl, by decide +kernel, by decide +kernel⟩
abbrev s__law_eaten : Stmt := topS 56
theorem sc__law_eaten : FnScope ["tags", "standings", "subject", "place", "count"] ["tags", "standings", "subject"] (defScope s__law_eaten) := ⟨rfl, rfl, rfl, by decide +kernel, rfl, by decide +kernel, by decide +kernel⟩
abbrev s__law_row_done : Stmt := topS 57
theorem sc__law_row_done : FnScope ["tags", "every", "subject", "row", "found", "number"] ["tags", "every", "subject", "row"] (defScope s__law_row_done) := ⟨rfl, rfl, rfl, by decide +kernel, rfl, by decide +kernel, by decide +kernel⟩
abbrev s__law_talks : Stmt := topS 58
theorem sc__law_talks : FnScope ["tags", "key", "letters", "keys", "found", "number", "subject", "told"] ["tags", "key", "letters"] (defScope s__law_talks) := ⟨rfl, rfl, rfl, by decide +kernel, rfl, by decide +kernel, by decide +kernel⟩
abbrev s__law_undone : Stmt := topS 59
theorem sc__law_undone : FnScope ["mailbox", "error", "found", "e"] ["mailbox"] (defScope s__law_undone) := ⟨rfl, rfl, rfl, by decide +kernel, rfl, by decide +kernel, by decide +kernel⟩
abbrev s__law_box_right : Stmt := topS 60
theorem sc__law_box_right : FnScope ["mailbox", "tags", "key", "letters", "talks", "turn", "found", "some", "number", "subject", "told", "talk"] ["mailbox", "tags", "key", "letters"] (defScope s__law_box_right) := ⟨rfl, rfl, rfl, by decide +kernel, rfl, by decide +kernel, by decide +kernel⟩
abbrev s__law_deed_right : Stmt := topS 61
theorem sc__law_deed_right : FnScope ["pile", "mailbox", "tags", "every", "key", "letters", "way", "subject", "handed", "number", "due", "program", "made_v", "found", "talk"] ["pile", "mailbox", "tags", "every", "key", "letters"] (defScope s__law_deed_right) := ⟨rfl, rfl, rfl, by decide +kernel, rfl, by decide +kernel, by decide +kernel⟩
abbrev s_law : Stmt := topS 62
theorem sc_law : FnScope ["script", "at", "pile", "tags", "turn", "every", "key", "handed", "reader", "mailbox", "beside", "letters", "others", "subject", "boxes", "box", "some", "standings"] ["script"] (defScope s_law) := ⟨rfl, rfl, rfl, by decide +kernel, rfl, by decide +kernel, by decide +kernel⟩
structure TX (K : PySem.W.Frag) (mg : Str → Option Value) : Type where
  n_TypeError : mg "TypeError" = none
  n_abs : mg "abs" = none
  n_all : mg "all" = none
  n_any : mg "any" = none
  n_bool : mg "bool" = none
  n_enumerate : mg "enumerate" = none
  n_int : mg "int" = none
  n_isinstance : mg "isinstance" = none
  n_len : mg "len" = none
  n_list : mg "list" = none
  n_max : mg "max" = none
  n_range : mg "range" = none
  n_sorted : mg "sorted" = none
  n_str : mg "str" = none
  n_tuple : mg "tuple" = none
  n_zip : mg "zip" = none
  c_LETTERS : ∃ u, mg "LETTERS" = some u ∧ RelV (.str "abcdefghijklmnopqrstuvwxyz") u
  c_MOST_LETTERS : ∃ u, mg "MOST_LETTERS" = some u ∧ RelV (.int 8) u
  c_MOST_TAGS : ∃ u, mg "MOST_TAGS" = some u ∧ RelV (.int 6) u
  c_MOST_STANDINGS : ∃ u, mg "MOST_STANDINGS" = some u ∧ RelV (.int 30) u
  c_LONGEST_WORD : ∃ u, mg "LONGEST_WORD" = some u ∧ RelV (.int 8) u
  c_LONGEST_SUBJECT : ∃ u, mg "LONGEST_SUBJECT" = some u ∧ RelV (.int 200) u
  c_MOST_PROGRAMS : ∃ u, mg "MOST_PROGRAMS" = some u ∧ RelV (.int 6) u
  d__wall : QB.TopAt K mg "_wall" s__wall ["k"]
  d_is_number : QB.TopAt K mg "is_number" s_is_number ["x", "least", "most"]
  d_is_list : QB.TopAt K mg "is_list" s_is_list ["x", "least", "most"]
  d_is_name : QB.TopAt K mg "is_name" s_is_name ["x"]
  d_is_tag : QB.TopAt K mg "is_tag" s_is_tag ["tags", "x"]
  d_is_subject : QB.TopAt K mg "is_subject" s_is_subject ["tags", "x"]
  d_is_standing : QB.TopAt K mg "is_standing" s_is_standing ["tags", "many", "x"]
  d_check_tags : QB.TopAt K mg "check_tags" s_check_tags ["tags"]
  d_check_word : QB.TopAt K mg "check_word" s_check_word ["tags", "word", "most"]
  d_check_standings : QB.TopAt K mg "check_standings" s_check_standings ["tags", "standings"]
  d_check_number : QB.TopAt K mg "check_number" s_check_number ["number", "most"]
  d_walked : QB.TopAt K mg "walked" s_walked ["tags", "standings", "word"]
  d_made : QB.TopAt K mg "made" s_made ["tags", "standings", "subject"]
  d_is_settled_at : QB.TopAt K mg "is_settled_at" s_is_settled_at ["standing"]
  d_is_made_at : QB.TopAt K mg "is_made_at" s_is_made_at ["tags", "standing", "subject"]
  d_copied : QB.TopAt K mg "copied" s_copied ["standings"]
  d_without_needless_ways : QB.TopAt K mg "without_needless_ways" s_without_needless_ways ["tags", "standings"]
  d_numbered : QB.TopAt K mg "numbered" s_numbered ["marks"]
  d_parted : QB.TopAt K mg "parted" s_parted ["classes", "standings"]
  d_alike_classes : QB.TopAt K mg "alike_classes" s_alike_classes ["standings"]
  d_in_order_met : QB.TopAt K mg "in_order_met" s_in_order_met ["standings", "classes"]
  d_least_form : QB.TopAt K mg "least_form" s_least_form ["tags", "standings"]
  d_check_same_tags : QB.TopAt K mg "check_same_tags" s_check_same_tags ["one", "other"]
  d_check_programs : QB.TopAt K mg "check_programs" s_check_programs ["programs"]
  d__law_mixed : QB.TopAt K mg "_law_mixed" s__law_mixed ["cell", "k"]
  d__law_pile : QB.TopAt K mg "_law_pile" s__law_pile ["script", "k"]
  d__law_take : QB.TopAt K mg "_law_take" s__law_take ["pile", "many"]
  d__law_order : QB.TopAt K mg "_law_order" s__law_order ["pile", "many"]
  d__law_tags : QB.TopAt K mg "_law_tags" s__law_tags ["pile", "many"]
  d__law_word : QB.TopAt K mg "_law_word" s__law_word ["pile", "tags", "most"]
  d__law_standings : QB.TopAt K mg "_law_standings" s__law_standings ["pile", "tags", "most", "long"]
  d__law_eaten : QB.TopAt K mg "_law_eaten" s__law_eaten ["tags", "standings", "subject"]
  d__law_row_done : QB.TopAt K mg "_law_row_done" s__law_row_done ["tags", "every", "subject", "row"]
  d__law_talks : QB.TopAt K mg "_law_talks" s__law_talks ["tags", "key", "letters"]
  d__law_undone : QB.TopAt K mg "_law_undone" s__law_undone ["mailbox"]
  d__law_box_right : QB.TopAt K mg "_law_box_right" s__law_box_right ["mailbox", "tags", "key", "letters"]
  d__law_deed_right : QB.TopAt K mg "_law_deed_right" s__law_deed_right ["pile", "mailbox", "tags", "every", "key", "letters"]
  d_law : QB.TopAt K mg "law" s_law ["script"]
  lam_c : Addr
  lam_P : Addr
  lam_F : QB.FunC K "without_needless_ways" "without_needless_ways" s_without_needless_ways d_without_needless_ways.a d_without_needless_ways.fd lam_c
  e_TagError : Addr
  me_TagError : mg "TagError" = some (.ref e_TagError)
  e_InvalidTags : Addr
  me_InvalidTags : mg "InvalidTags" = some (.ref e_InvalidTags)
  d_InvalidTags___init__ : QB.DefAt K "__init__" "InvalidTags.__init__" s_InvalidTags___init__ ["self", "index"]
  xt_InvalidTags : QX.ExcT K e_InvalidTags d_InvalidTags___init__.a "index"
  e_InvalidSubject : Addr
  me_InvalidSubject : mg "InvalidSubject" = some (.ref e_InvalidSubject)
  d_InvalidSubject___init__ : QB.DefAt K "__init__" "InvalidSubject.__init__" s_InvalidSubject___init__ ["self", "index"]
  xt_InvalidSubject : QX.ExcT K e_InvalidSubject d_InvalidSubject___init__.a "index"
  e_InvalidEater : Addr
  me_InvalidEater : mg "InvalidEater" = some (.ref e_InvalidEater)
  d_InvalidEater___init__ : QB.DefAt K "__init__" "InvalidEater.__init__" s_InvalidEater___init__ ["self", "index"]
  xt_InvalidEater : QX.ExcT K e_InvalidEater d_InvalidEater___init__.a "index"
  e_InvalidNumber : Addr
  me_InvalidNumber : mg "InvalidNumber" = some (.ref e_InvalidNumber)
  d_InvalidNumber___init__ : QB.DefAt K "__init__" "InvalidNumber.__init__" s_InvalidNumber___init__ ["self", "number"]
  xt_InvalidNumber : QX.ExcT K e_InvalidNumber d_InvalidNumber___init__.a "number"
  e_InvalidPrograms : Addr
  me_InvalidPrograms : mg "InvalidPrograms" = some (.ref e_InvalidPrograms)
  d_InvalidPrograms___init__ : QB.DefAt K "__init__" "InvalidPrograms.__init__" s_InvalidPrograms___init__ ["self", "index"]
  xt_InvalidPrograms : QX.ExcT K e_InvalidPrograms d_InvalidPrograms___init__.a "index"
  e_UnlikeTags : Addr
  me_UnlikeTags : mg "UnlikeTags" = some (.ref e_UnlikeTags)
  e_NothingToUndo : Addr
  me_NothingToUndo : mg "NothingToUndo" = some (.ref e_NothingToUndo)
  e_TooMany : Addr
  me_TooMany : mg "TooMany" = some (.ref e_TooMany)
  d_TooMany___init__ : QB.DefAt K "__init__" "TooMany.__init__" s_TooMany___init__ ["self", "limit"]
  xt_TooMany : QX.ExcT K e_TooMany d_TooMany___init__.a "limit"
  ex_InvalidTags : PySem.W.exmOne K (.ref e_InvalidTags) (.ref e_TagError) = some true
  kv_InvalidTags : PySem.W.kitOne K (.ref e_InvalidTags) (.type "ValueError") = some true
  ki_InvalidTags_TagError : PySem.W.kitOne K (.ref e_InvalidTags) (.ref e_TagError) = some true
  ki_InvalidTags_InvalidTags : PySem.W.kitOne K (.ref e_InvalidTags) (.ref e_InvalidTags) = some true
  ki_InvalidTags_InvalidSubject : PySem.W.kitOne K (.ref e_InvalidTags) (.ref e_InvalidSubject) = some false
  ki_InvalidTags_InvalidEater : PySem.W.kitOne K (.ref e_InvalidTags) (.ref e_InvalidEater) = some false
  ki_InvalidTags_InvalidNumber : PySem.W.kitOne K (.ref e_InvalidTags) (.ref e_InvalidNumber) = some false
  ki_InvalidTags_InvalidPrograms : PySem.W.kitOne K (.ref e_InvalidTags) (.ref e_InvalidPrograms) = some false
  ki_InvalidTags_UnlikeTags : PySem.W.kitOne K (.ref e_InvalidTags) (.ref e_UnlikeTags) = some false
  ki_InvalidTags_NothingToUndo : PySem.W.kitOne K (.ref e_InvalidTags) (.ref e_NothingToUndo) = some false
  ki_InvalidTags_TooMany : PySem.W.kitOne K (.ref e_InvalidTags) (.ref e_TooMany) = some false
  ex_InvalidSubject : PySem.W.exmOne K (.ref e_InvalidSubject) (.ref e_TagError) = some true
  kv_InvalidSubject : PySem.W.kitOne K (.ref e_InvalidSubject) (.type "ValueError") = some true
  ki_InvalidSubject_TagError : PySem.W.kitOne K (.ref e_InvalidSubject) (.ref e_TagError) = some true
  ki_InvalidSubject_InvalidTags : PySem.W.kitOne K (.ref e_InvalidSubject) (.ref e_InvalidTags) = some false
  ki_InvalidSubject_InvalidSubject : PySem.W.kitOne K (.ref e_InvalidSubject) (.ref e_InvalidSubject) = some true
  ki_InvalidSubject_InvalidEater : PySem.W.kitOne K (.ref e_InvalidSubject) (.ref e_InvalidEater) = some false
  ki_InvalidSubject_InvalidNumber : PySem.W.kitOne K (.ref e_InvalidSubject) (.ref e_InvalidNumber) = some false
  ki_InvalidSubject_InvalidPrograms : PySem.W.kitOne K (.ref e_InvalidSubject) (.ref e_InvalidPrograms) = some false
  ki_InvalidSubject_UnlikeTags : PySem.W.kitOne K (.ref e_InvalidSubject) (.ref e_UnlikeTags) = some false
  ki_InvalidSubject_NothingToUndo : PySem.W.kitOne K (.ref e_InvalidSubject) (.ref e_NothingToUndo) = some false
  ki_InvalidSubject_TooMany : PySem.W.kitOne K (.ref e_InvalidSubject) (.ref e_TooMany) = some false
  ex_InvalidEater : PySem.W.exmOne K (.ref e_InvalidEater) (.ref e_TagError) = some true
  kv_InvalidEater : PySem.W.kitOne K (.ref e_InvalidEater) (.type "ValueError") = some true
  ki_InvalidEater_TagError : PySem.W.kitOne K (.ref e_InvalidEater) (.ref e_TagError) = some true
  ki_InvalidEater_InvalidTags : PySem.W.kitOne K (.ref e_InvalidEater) (.ref e_InvalidTags) = some false
  ki_InvalidEater_InvalidSubject : PySem.W.kitOne K (.ref e_InvalidEater) (.ref e_InvalidSubject) = some false
  ki_InvalidEater_InvalidEater : PySem.W.kitOne K (.ref e_InvalidEater) (.ref e_InvalidEater) = some true
  ki_InvalidEater_InvalidNumber : PySem.W.kitOne K (.ref e_InvalidEater) (.ref e_InvalidNumber) = some false
  ki_InvalidEater_InvalidPrograms : PySem.W.kitOne K (.ref e_InvalidEater) (.ref e_InvalidPrograms) = some false
  ki_InvalidEater_UnlikeTags : PySem.W.kitOne K (.ref e_InvalidEater) (.ref e_UnlikeTags) = some false
  ki_InvalidEater_NothingToUndo : PySem.W.kitOne K (.ref e_InvalidEater) (.ref e_NothingToUndo) = some false
  ki_InvalidEater_TooMany : PySem.W.kitOne K (.ref e_InvalidEater) (.ref e_TooMany) = some false
  ex_InvalidNumber : PySem.W.exmOne K (.ref e_InvalidNumber) (.ref e_TagError) = some true
  kv_InvalidNumber : PySem.W.kitOne K (.ref e_InvalidNumber) (.type "ValueError") = some true
  ki_InvalidNumber_TagError : PySem.W.kitOne K (.ref e_InvalidNumber) (.ref e_TagError) = some true
  ki_InvalidNumber_InvalidTags : PySem.W.kitOne K (.ref e_InvalidNumber) (.ref e_InvalidTags) = some false
  ki_InvalidNumber_InvalidSubject : PySem.W.kitOne K (.ref e_InvalidNumber) (.ref e_InvalidSubject) = some false
  ki_InvalidNumber_InvalidEater : PySem.W.kitOne K (.ref e_InvalidNumber) (.ref e_InvalidEater) = some false
  ki_InvalidNumber_InvalidNumber : PySem.W.kitOne K (.ref e_InvalidNumber) (.ref e_InvalidNumber) = some true
  ki_InvalidNumber_InvalidPrograms : PySem.W.kitOne K (.ref e_InvalidNumber) (.ref e_InvalidPrograms) = some false
  ki_InvalidNumber_UnlikeTags : PySem.W.kitOne K (.ref e_InvalidNumber) (.ref e_UnlikeTags) = some false
  ki_InvalidNumber_NothingToUndo : PySem.W.kitOne K (.ref e_InvalidNumber) (.ref e_NothingToUndo) = some false
  ki_InvalidNumber_TooMany : PySem.W.kitOne K (.ref e_InvalidNumber) (.ref e_TooMany) = some false
  ex_InvalidPrograms : PySem.W.exmOne K (.ref e_InvalidPrograms) (.ref e_TagError) = some true
  kv_InvalidPrograms : PySem.W.kitOne K (.ref e_InvalidPrograms) (.type "ValueError") = some true
  ki_InvalidPrograms_TagError : PySem.W.kitOne K (.ref e_InvalidPrograms) (.ref e_TagError) = some true
  ki_InvalidPrograms_InvalidTags : PySem.W.kitOne K (.ref e_InvalidPrograms) (.ref e_InvalidTags) = some false
  ki_InvalidPrograms_InvalidSubject : PySem.W.kitOne K (.ref e_InvalidPrograms) (.ref e_InvalidSubject) = some false
  ki_InvalidPrograms_InvalidEater : PySem.W.kitOne K (.ref e_InvalidPrograms) (.ref e_InvalidEater) = some false
  ki_InvalidPrograms_InvalidNumber : PySem.W.kitOne K (.ref e_InvalidPrograms) (.ref e_InvalidNumber) = some false
  ki_InvalidPrograms_InvalidPrograms : PySem.W.kitOne K (.ref e_InvalidPrograms) (.ref e_InvalidPrograms) = some true
  ki_InvalidPrograms_UnlikeTags : PySem.W.kitOne K (.ref e_InvalidPrograms) (.ref e_UnlikeTags) = some false
  ki_InvalidPrograms_NothingToUndo : PySem.W.kitOne K (.ref e_InvalidPrograms) (.ref e_NothingToUndo) = some false
  ki_InvalidPrograms_TooMany : PySem.W.kitOne K (.ref e_InvalidPrograms) (.ref e_TooMany) = some false
  ex_UnlikeTags : PySem.W.exmOne K (.ref e_UnlikeTags) (.ref e_TagError) = some true
  kv_UnlikeTags : PySem.W.kitOne K (.ref e_UnlikeTags) (.type "ValueError") = some true
  ki_UnlikeTags_TagError : PySem.W.kitOne K (.ref e_UnlikeTags) (.ref e_TagError) = some true
  ki_UnlikeTags_InvalidTags : PySem.W.kitOne K (.ref e_UnlikeTags) (.ref e_InvalidTags) = some false
  ki_UnlikeTags_InvalidSubject : PySem.W.kitOne K (.ref e_UnlikeTags) (.ref e_InvalidSubject) = some false
  ki_UnlikeTags_InvalidEater : PySem.W.kitOne K (.ref e_UnlikeTags) (.ref e_InvalidEater) = some false
  ki_UnlikeTags_InvalidNumber : PySem.W.kitOne K (.ref e_UnlikeTags) (.ref e_InvalidNumber) = some false
  ki_UnlikeTags_InvalidPrograms : PySem.W.kitOne K (.ref e_UnlikeTags) (.ref e_InvalidPrograms) = some false
  ki_UnlikeTags_UnlikeTags : PySem.W.kitOne K (.ref e_UnlikeTags) (.ref e_UnlikeTags) = some true
  ki_UnlikeTags_NothingToUndo : PySem.W.kitOne K (.ref e_UnlikeTags) (.ref e_NothingToUndo) = some false
  ki_UnlikeTags_TooMany : PySem.W.kitOne K (.ref e_UnlikeTags) (.ref e_TooMany) = some false
  nx_NothingToUndo : QM2.NewX K e_NothingToUndo
  ex_NothingToUndo : PySem.W.exmOne K (.ref e_NothingToUndo) (.ref e_TagError) = some true
  kv_NothingToUndo : PySem.W.kitOne K (.ref e_NothingToUndo) (.type "ValueError") = some true
  ki_NothingToUndo_TagError : PySem.W.kitOne K (.ref e_NothingToUndo) (.ref e_TagError) = some true
  ki_NothingToUndo_InvalidTags : PySem.W.kitOne K (.ref e_NothingToUndo) (.ref e_InvalidTags) = some false
  ki_NothingToUndo_InvalidSubject : PySem.W.kitOne K (.ref e_NothingToUndo) (.ref e_InvalidSubject) = some false
  ki_NothingToUndo_InvalidEater : PySem.W.kitOne K (.ref e_NothingToUndo) (.ref e_InvalidEater) = some false
  ki_NothingToUndo_InvalidNumber : PySem.W.kitOne K (.ref e_NothingToUndo) (.ref e_InvalidNumber) = some false
  ki_NothingToUndo_InvalidPrograms : PySem.W.kitOne K (.ref e_NothingToUndo) (.ref e_InvalidPrograms) = some false
  ki_NothingToUndo_UnlikeTags : PySem.W.kitOne K (.ref e_NothingToUndo) (.ref e_UnlikeTags) = some false
  ki_NothingToUndo_NothingToUndo : PySem.W.kitOne K (.ref e_NothingToUndo) (.ref e_NothingToUndo) = some true
  ki_NothingToUndo_TooMany : PySem.W.kitOne K (.ref e_NothingToUndo) (.ref e_TooMany) = some false
  ex_TooMany : PySem.W.exmOne K (.ref e_TooMany) (.ref e_TagError) = some true
  kv_TooMany : PySem.W.kitOne K (.ref e_TooMany) (.type "ValueError") = some true
  ki_TooMany_TagError : PySem.W.kitOne K (.ref e_TooMany) (.ref e_TagError) = some true
  ki_TooMany_InvalidTags : PySem.W.kitOne K (.ref e_TooMany) (.ref e_InvalidTags) = some false
  ki_TooMany_InvalidSubject : PySem.W.kitOne K (.ref e_TooMany) (.ref e_InvalidSubject) = some false
  ki_TooMany_InvalidEater : PySem.W.kitOne K (.ref e_TooMany) (.ref e_InvalidEater) = some false
  ki_TooMany_InvalidNumber : PySem.W.kitOne K (.ref e_TooMany) (.ref e_InvalidNumber) = some false
  ki_TooMany_InvalidPrograms : PySem.W.kitOne K (.ref e_TooMany) (.ref e_InvalidPrograms) = some false
  ki_TooMany_UnlikeTags : PySem.W.kitOne K (.ref e_TooMany) (.ref e_UnlikeTags) = some false
  ki_TooMany_NothingToUndo : PySem.W.kitOne K (.ref e_TooMany) (.ref e_NothingToUndo) = some false
  ki_TooMany_TooMany : PySem.W.kitOne K (.ref e_TooMany) (.ref e_TooMany) = some true
  c_Eater : Addr
  m_Eater : mg "Eater" = some (.ref c_Eater)
  cl_Eater : Cls K c_Eater
  oc_Eater : QO.OwnC K c_Eater
  d_Eater___init__ : QB.DefAt K "__init__" "Eater.__init__" s_Eater___init__ ["self", "tags", "standings"]
  d_Eater___len__ : QB.DefAt K "__len__" "Eater.__len__" s_Eater___len__ ["self"]
  h_Eater___len__ : Meth K c_Eater "__len__" d_Eater___len__.a
  d_Eater___eq__ : QB.DefAt K "__eq__" "Eater.__eq__" s_Eater___eq__ ["self", "other"]
  h_Eater___eq__ : Meth K c_Eater "__eq__" d_Eater___eq__.a
  d_Eater___contains__ : QB.DefAt K "__contains__" "Eater.__contains__" s_Eater___contains__ ["self", "x"]
  h_Eater___contains__ : Meth K c_Eater "__contains__" d_Eater___contains__.a
  d_Eater_tags : QB.DefAt K "tags" "Eater.tags" s_Eater_tags ["self"]
  h_Eater_tags : Meth K c_Eater "tags" d_Eater_tags.a
  d_Eater_standings : QB.DefAt K "standings" "Eater.standings" s_Eater_standings ["self"]
  h_Eater_standings : Meth K c_Eater "standings" d_Eater_standings.a
  d_Eater_on : QB.DefAt K "on" "Eater.on" s_Eater_on ["self", "subject"]
  h_Eater_on : Meth K c_Eater "on" d_Eater_on.a
  d_Eater_settled : QB.DefAt K "settled" "Eater.settled" s_Eater_settled ["self", "word"]
  h_Eater_settled : Meth K c_Eater "settled" d_Eater_settled.a
  d_Eater_then : QB.DefAt K "then" "Eater.then" s_Eater_then ["self", "other"]
  h_Eater_then : Meth K c_Eater "then" d_Eater_then.a
  d_Eater_power : QB.DefAt K "power" "Eater.power" s_Eater_power ["self", "times"]
  h_Eater_power : Meth K c_Eater "power" d_Eater_power.a
  mk_Eater : Mk K c_Eater d_Eater___init__.a
  na_Eater__standings : NoAttr K c_Eater "_standings"
  na_Eater__tags : NoAttr K c_Eater "_tags"
  c_Mailbox : Addr
  m_Mailbox : mg "Mailbox" = some (.ref c_Mailbox)
  cl_Mailbox : Cls K c_Mailbox
  d_Mailbox___init__ : QB.DefAt K "__init__" "Mailbox.__init__" s_Mailbox___init__ ["self", "programs", "key"]
  d_Mailbox___len__ : QB.DefAt K "__len__" "Mailbox.__len__" s_Mailbox___len__ ["self"]
  h_Mailbox___len__ : Meth K c_Mailbox "__len__" d_Mailbox___len__.a
  d_Mailbox___getitem__ : QB.DefAt K "__getitem__" "Mailbox.__getitem__" s_Mailbox___getitem__ ["self", "number"]
  h_Mailbox___getitem__ : Meth K c_Mailbox "__getitem__" d_Mailbox___getitem__.a
  d_Mailbox___iter__ : QB.DefAt K "__iter__" "Mailbox.__iter__" s_Mailbox___iter__ ["self"]
  h_Mailbox___iter__ : Meth K c_Mailbox "__iter__" d_Mailbox___iter__.a
  d_Mailbox_begin : QB.DefAt K "begin" "Mailbox.begin" s_Mailbox_begin ["self", "subject"]
  h_Mailbox_begin : Meth K c_Mailbox "begin" d_Mailbox_begin.a
  d_Mailbox_answer : QB.DefAt K "answer" "Mailbox.answer" s_Mailbox_answer ["self", "number", "program"]
  h_Mailbox_answer : Meth K c_Mailbox "answer" d_Mailbox_answer.a
  d_Mailbox_key_of : QB.DefAt K "key_of" "Mailbox.key_of" s_Mailbox_key_of ["self", "number"]
  h_Mailbox_key_of : Meth K c_Mailbox "key_of" d_Mailbox_key_of.a
  d_Mailbox_talk : QB.DefAt K "talk" "Mailbox.talk" s_Mailbox_talk ["self", "number"]
  h_Mailbox_talk : Meth K c_Mailbox "talk" d_Mailbox_talk.a
  d_Mailbox_talks : QB.DefAt K "talks" "Mailbox.talks" s_Mailbox_talks ["self"]
  h_Mailbox_talks : Meth K c_Mailbox "talks" d_Mailbox_talks.a
  d_Mailbox_tried : QB.DefAt K "tried" "Mailbox.tried" s_Mailbox_tried ["self", "number", "program"]
  h_Mailbox_tried : Meth K c_Mailbox "tried" d_Mailbox_tried.a
  d_Mailbox_undo : QB.DefAt K "undo" "Mailbox.undo" s_Mailbox_undo ["self"]
  h_Mailbox_undo : Meth K c_Mailbox "undo" d_Mailbox_undo.a
  d_Mailbox_trial : QB.DefAt K "trial" "Mailbox.trial" s_Mailbox_trial ["self"]
  h_Mailbox_trial : Meth K c_Mailbox "trial" d_Mailbox_trial.a
  d_Mailbox__come : QB.DefAt K "_come" "Mailbox._come" s_Mailbox__come ["self", "subject"]
  h_Mailbox__come : Meth K c_Mailbox "_come" d_Mailbox__come.a
  d_Mailbox__answered : QB.DefAt K "_answered" "Mailbox._answered" s_Mailbox__answered ["self", "number", "program"]
  h_Mailbox__answered : Meth K c_Mailbox "_answered" d_Mailbox__answered.a
  d_Mailbox__with_key : QB.DefAt K "_with_key" "Mailbox._with_key" s_Mailbox__with_key ["self", "key"]
  h_Mailbox__with_key : Meth K c_Mailbox "_with_key" d_Mailbox__with_key.a
  mk_Mailbox : Mk K c_Mailbox d_Mailbox___init__.a
  na_Mailbox__key : NoAttr K c_Mailbox "_key"
  na_Mailbox__letters : NoAttr K c_Mailbox "_letters"
  na_Mailbox__programs : NoAttr K c_Mailbox "_programs"
section
variable {P : Program} {w : World} {K : PySem.W.Frag} {mg : Str → Option Value} {base : Heap}

def spWalked (K : PySem.W.Frag) : Sp := fun vs H Q _ => ∃ (a b c : Addr) (tags : List Str) (F : Form) (wd : Word), vs = [.ref a, .ref b, .ref c] ∧ WordAt H a tags ∧ FormAt H b F ∧ WordAt H c wd ∧ Good tags F ∧ (∀ t ∈ wd, t ∈ tags) ∧ wd.length ≤ 100000 ∧
  ∀ (p : Addr) (H' : Hp), Same H H' → H p = none → H' p = some (.tup [.int ((walk tags F wd).1 : Int), .int ((walk tags F wd).2 : Int)]) → Q (.ref p) H'
theorem ok_walked (X : TX K mg) : FnOk P w K mg base CX0 1 X.d_walked.a X.d_walked.fd ["tags", "standings", "word"] (spWalked K) := by
  have nd := sc_walked.nd
  refine X.d_walked.F.ok sc_walked (fun vs H Q E h => ?_) (fun cdv A outer s H vs Q E hr h => ?_)
  · obtain ⟨a, b, c, tags, F, wd, rfl, _⟩ := h
    rfl
  · obtain ⟨a, b, c, tags, F, wd, rfl, hT, hF, hw, g, hin, hz, k⟩ := h
    refine ⟨_, (pss_cons (ps_set (i := 3) nd rfl (Or.inl rfl) pe_int) (pss_cons (ps_for PassesOwn.never rfl (QB.pi_enumK K (by rfl) X.n_enumerate (pa_cons (pv 2) pa_nil)) (pg_tup (by rfl) (pgs_cons (pg_name (i := 4) nd rfl (Or.inl rfl)) (pgs_cons (pg_name (i := 5) nd rfl (Or.inl rfl)) (pgs_nil)))) (pss_cons (ps_set (i := 6) nd rfl (Or.inl rfl) (pe_ix (QB.ix_listK K) (pe_ix (QB.ix_tupK K) (pe_ix (QB.ix_listK K) (pv 1) (pv 3) (fun _ _ => rfl)) pe_int (fun _ _ => rfl)) (QB.pe_bmK K PySem.F.plainAttrs_list PySem.F.slot_list_index PySem.F.type_list_index (QB.mt_indexK K) (pv 0) (pa_cons (pv 5) pa_nil)) (fun _ _ => rfl))) (pss_cons (ps_if (pt_cmpR op_isN (pv 6) pe_non (nomark _)) (pss_one (ps_ret (pe_tup (pa_cons (pv 3) (pa_cons (pv 4) pa_nil))))) pss_nil) (pss_one (ps_set (i := 3) nd rfl (Or.inl rfl) (pv 6)))))) (pss_one (ps_ret (pe_tup (pa_cons (pv 3) (pa_cons (pe_callB (QB.call_lenK K) (by rfl) X.n_len PySem.boot_len (pa_cons (pv 2) pa_nil)) pa_nil))))))), ?_⟩
    try dsimp only [Cx.nox, Cx.wish, cxOf]
    refine ⟨_, rfl, _, _, rfl, SqL.of hw, ?_⟩
    refine for_it (walk_enumW (K := K) (a := c) (w := wd)) (fun i σ H' => ∃ (at_ : Nat) (v4 v5 v6 : Option V), σ = [some (.ref a), some (.ref b), some (.ref c), some (.int (at_ : Int)), v4, v5, v6] ∧ Same H H' ∧ at_ < F.length ∧ walkFrom tags F at_ i (wd.drop i) = walk tags F wd)
      ⟨0, none, none, none, rfl, Same.refl H, g.pos, rfl⟩ (fun i σ H' _ ⟨_, _, _, _, _, s1, _⟩ => Same.word s1 hw) ?_ ?_
    · rintro i v σ H1 H2 hi ⟨at_, v4, v5, v6, rfl, s1, hat, hwk⟩ ⟨tp, x, hx, ntp, rfl, rfl⟩
      have s2 : Same H (upd H1 tp (.tup [.int (i : Int), .str x])) := Same.new s1 ntp
      have eF : F[at_]? = some F[at_] := by simp [hat]
      have hxt : x ∈ tags := hin x (List.mem_of_getElem? hx)
      obtain ⟨vs, t, p1, p2, f1, f2, f3, f4, f5, f6⟩ := (Same.form s2 hF).at eF
      have ed : wd.drop i = x :: wd.drop (i + 1) := (List.drop_eq_getElem_cons hi).trans (by rw [List.getElem?_eq_getElem hi] at hx; rw [Option.some.inj hx])
      rw [ed] at hwk
      unfold walkFrom at hwk
      rw [wayAt_of eF] at hwk
      refine ⟨tp, _, rfl, SqT.of upd_same, rfl, _, _, rfl, _, _, rfl, rfl, ?_⟩
      refine ⟨_, rfl, _, rfl, _, _, _, _, rfl, rfl, SqL.of f1, atI_nat f3, _, _, _, _, rfl, rfl, SqT.of f4, rfl, ?_⟩
      refine ⟨_, rfl, .inl ⟨rfl, _, SqL.of (Same.word s2 hT)⟩, _, rfl, ?_⟩
      dsimp only [tNil]
      refine index_word (Same.word s2 hT) hxt ?_
      refine ⟨_, _, _, _, rfl, rfl, SqL.of f6, atI_nat (vWs_get (g.way eF hxt)), ?_⟩
      refine ⟨_, rfl, rfl, _, rfl, ?_⟩
      cases e : way tags F[at_] x with
      | none =>
        rw [e] at hwk
        refine iteT ?_
        refine ⟨_, rfl, _, rfl, (by show 2 ≤ sizeLine; decide), fun p hp => ?_⟩
        refine k p _ (Same.new s2 hp) (Same.free s2 hp) ?_
        rw [← hwk]
        exact upd_same
      | some n =>
        rw [e] at hwk
        refine iteF ?_
        exact ⟨_, rfl, n, _, _, _, rfl, s2, g.wayLt eF hxt e, hwk⟩
    · rintro σ H1 ⟨at_, v4, v5, v6, rfl, s1, hat, hwk⟩
      rw [List.drop_length] at hwk
      refine ⟨_, rfl, _, rfl, _, _, rfl, .inl (SqL.of (Same.word s1 hw)), (by show 2 ≤ sizeLine; decide), fun p hp => ?_⟩
      refine k p _ (Same.new s1 hp) (Same.free s1 hp) ?_
      rw [← hwk, vS_len]
      exact upd_same

def spMade : Sp := fun vs H Q _ => ∃ (a b c : Addr) (tags : List Str) (F : Form) (wd : Word), vs = [.ref a, .ref b, .ref c] ∧ WordAt H a tags ∧ FormAt H b F ∧ WordAt H c wd ∧ Good tags F ∧ (∀ t ∈ wd, t ∈ tags) ∧ wd.length ≤ 10000 ∧ (∀ s ∈ F, s.1.length ≤ 10000) ∧
  ∀ (p : Addr) (H' : Hp), Same H H' → H p = none → H' p = some (.lst (vS (make tags F wd))) → Q (.ref p) H'
theorem ok_made (X : TX K mg) : FnOk P w K mg base CX0 2 X.d_made.a X.d_made.fd ["tags", "standings", "subject"] spMade := by
  have nd := sc_made.nd
  refine X.d_made.F.ok sc_made (fun vs H Q E h => ?_) (fun cdv A outer s H vs Q E hr h => ?_)
  · obtain ⟨a, b, c, tags, F, wd, rfl, _⟩ := h
    rfl
  · obtain ⟨a, b, c, tags, F, wd, rfl, hT, hF, hw, g, hin, hz, hz2, k⟩ := h
    refine ⟨_, (pss_cons (ps_asg (pe_call (ok_walked X) (hr.mono (by decide)) rfl X.d_walked.mg X.d_walked.F.kp X.d_walked.b .nil pass0 (pa_cons (pv 0) (pa_cons (pv 1) (pa_cons (pv 2) pa_nil)))) (pg_tup (by rfl) (pgs_cons (pg_name (i := 3) nd rfl (Or.inl rfl)) (pgs_cons (pg_name (i := 4) nd rfl (Or.inl rfl)) (pgs_nil))))) (pss_one (ps_ret (pe_op op_cat (pe_ix (QB.ix_tupK K) (pe_ix (QB.ix_listK K) (pv 1) (pv 3) (fun _ _ => rfl)) pe_int (fun _ _ => rfl)) (pe_slice (QB.sl_listK K) (pv 2) (po_some (pv 4)) po_none))))), ?_⟩
    try dsimp only [Cx.nox, Cx.wish, cxOf]
    refine ⟨_, rfl, _, rfl, _, rfl, ?_⟩
    refine ⟨a, b, c, tags, F, wd, rfl, hT, hF, hw, g, hin, Nat.le_trans hz (by decide), fun tp H1 s1 ntp h1 => ?_⟩
    refine ⟨tp, _, rfl, SqT.of h1, rfl, _, _, rfl, _, _, rfl, rfl, ?_⟩
    have hwl := (walk_lt g hin).1
    have eF : F[(walk tags F wd).1]? = some F[(walk tags F wd).1] := List.getElem?_eq_getElem hwl
    obtain ⟨vs, t, p1, p2, f1, f2, f3, f4, f5, f6⟩ := (Same.form s1 hF).at eF
    refine ⟨_, rfl, _, rfl, _, _, _, _, rfl, rfl, SqL.of f1, atI_nat f3, _, _, _, _, rfl, rfl, SqT.of f4, rfl, ?_⟩
    refine ⟨_, rfl, _, rfl, _, rfl, _, _, rfl, SqL.of (Same.word s1 hw), fun q hq => ?_⟩
    rw [cut_drop, vS_drop]
    refine ⟨_, _, _, _, rfl, rfl, Eq.trans (upd_ne (ne_of_none f5 hq)) f5, upd_same, ?_, fun p hp => ?_⟩
    · have z1 := hz2 _ (mem_of eF)
      have z2 : (wd.drop (walk tags F wd).2).length ≤ wd.length := by rw [List.length_drop]; omega
      rw [vS_len, vS_len]
      exact sz_le (by omega)
    · have s2 : Same H (upd H1 q (.lst (vS (wd.drop (walk tags F wd).2)))) := Same.new s1 hq
      refine k p _ (Same.new s2 hp) (Same.free s2 hp) ?_
      rw [upd_same, vS_append]
      unfold make
      rw [wordOf_of eF]

def spSettledAt : Sp := fun vs H Q _ => ∃ (t a b : Addr) (ws : Ways), vs = [.ref t] ∧ H t = some (.tup [.ref a, .ref b]) ∧ WaysAt H b ws ∧ ws.length ≤ 1000 ∧ ∀ H', Same H H' → Q (.bl (ws.all Option.isNone)) H'
theorem ok_is_settled_at (X : TX K mg) : FnOk P w K mg base CX0 1 X.d_is_settled_at.a X.d_is_settled_at.fd ["standing"] spSettledAt := by
  have nd := sc_is_settled_at.nd
  refine X.d_is_settled_at.F.ok sc_is_settled_at (fun vs H Q E h => ?_) (fun cdv A outer s H vs Q E hr h => ?_)
  · obtain ⟨t, a, b, ws, rfl, _⟩ := h
    rfl
  · obtain ⟨t, a, b, ws, rfl, ht, hw, hz, k⟩ := h
    refine ⟨_, (pss_one (ps_ret (pe_callB (QB.cr_allK K rfl) (by rfl) X.n_all QB.bo_all (pa_cons (pe_lc (own := [("way", 1)]) (g := gName 1) (tt := tYes) rfl nd (QB.pi_listK K (pe_ix (QB.ix_tupK K) (pv 0) pe_int (fun _ _ => rfl))) (blkOk_by (N := ["standing", "way"]) (sc := defScope s_is_settled_at) (by decide +kernel)) (fun _ _ _ _ _ => pg_name (i := 1) nd rfl (Or.inl rfl)) (fun _ _ _ _ _ => pts_nil) (fun _ _ _ _ _ => (pe_cmpR op_isN (pv 1) pe_non (nomark _)))) pa_nil)))), ?_⟩
    try dsimp only [Cx.nox, Cx.wish, cxOf]
    refine ⟨_, rfl, _, _, _, _, rfl, rfl, SqT.of ht, rfl, _, rfl, ⟨_, SqL.of hw⟩, fun D hD => ?_⟩
    refine lc_map (walk_listWs (K := K) (a := b) (ws := ws)) hD (by omega) (fun H1 s1 => Same.ways s1 hw) (fun i => .bl ((ws[i]?).join.isNone)) ?_ ?_
    · rintro i x H1 H2 kk hi s1 ⟨y, hy, rfl, rfl⟩ hk
      refine ⟨rfl, _, rfl, rfl, ?_⟩
      have e := hk H2 (Same.refl H2)
      rw [hy] at e
      rw [vW_is]
      exact e
    · intro H1 s1 e
      rw [range_map_get _ ws (fun x => .bl x.isNone) (fun i x hx => by rw [hx]; rfl)] at e
      refine ⟨_, ws.map Option.isNone, rfl, SqL.of (by rw [e, List.map_map]; rfl), ?_⟩
      have e2 := k H1 s1
      rw [List.all_map]
      exact e2
end
end Law
end

section
set_option Elab.async false
set_option linter.all false
set_option maxRecDepth 100000
set_option maxHeartbeats 4000000
namespace Law
open PySem PySem.Spec PyProof.Rows L2 LamX QB QM
section
variable {P : Program} {w : World} {K : PySem.W.Frag} {mg : Str → Option Value} {base : Heap}
def spCopied : Sp := fun vs H Q _ => ∃ (b : Addr) (F : Form), vs = [.ref b] ∧ FormAt H b F ∧ F.length ≤ 10000 ∧ ∀ (p : Addr) (L : List Tri) (H' : Hp), Same H H' → NewF H H' p L F → Q (.ref p) H'
theorem ok_copied (X : TX K mg) : FnOk P w K mg base CX0 1 X.d_copied.a X.d_copied.fd ["standings"] spCopied := by
  have nd := sc_copied.nd
  refine X.d_copied.F.ok sc_copied (fun vs H Q E h => ?_) (fun cdv A outer s H vs Q E hr h => ?_)
  · obtain ⟨b, F, rfl, _⟩ := h
    rfl
  · obtain ⟨b, F, rfl, hF, hz, k⟩ := h
    refine ⟨_, (pss_one (ps_ret (pe_lc (own := [("word", 1), ("ways", 2)]) (g := gTup K 2 (gCons (gName 1) (gCons (gName 2) (gNil)))) (tt := tYes) rfl nd (QB.pi_listK K (pv 0)) (blkOk_by (N := ["standings", "word", "ways"]) (sc := defScope s_copied) (by decide +kernel)) (fun _ _ _ _ _ => pg_tup (by rfl) (pgs_cons (pg_name (i := 1) nd rfl (Or.inl rfl)) (pgs_cons (pg_name (i := 2) nd rfl (Or.inl rfl)) (pgs_nil)))) (fun _ _ _ _ _ => pts_nil) (fun _ _ _ _ _ => (pe_tup (pa_cons (pe_callTy (QB.call_listK K) (by rfl) X.n_list QB.bo_list (pa_cons (pv 1) pa_nil)) (pa_cons (pe_callTy (QB.call_listK K) (by rfl) X.n_list QB.bo_list (pa_cons (pv 2) pa_nil)) pa_nil))))))), ?_⟩
    try dsimp only [Cx.nox, Cx.wish, cxOf]
    obtain ⟨vs, hv, hvl⟩ := FormAt.lst hF
    refine ⟨_, rfl, _, rfl, ⟨_, SqL.of hv⟩, fun D hD => ?_⟩
    refine lc_it (walk_listF (K := K) (p := b) (F := F)) (fun i H' => Same H H' ∧ ∃ L, H' D = some (.lst (L.map fun x => V.ref x.1)) ∧ NewL H H' L (F.take i) ∧ D ∉ inner L)
      ⟨same_new hD, [], upd_same, NewL.nil, by simp [inner]⟩ (fun i H' _ h => Same.form h.1 hF) ?_ ?_
    · rintro i x H1 H2 hi ⟨s1, L, hL, nL, oD⟩ ⟨s, t, a, b', hs, rfl, rfl, h1, h2, h3⟩
      refine ⟨t, _, rfl, SqT.of h1, rfl, _, _, rfl, _, _, rfl, rfl, rfl, ?_⟩
      refine ⟨_, rfl, _, _, rfl, .inl (SqL.of h2), fun p1 hp1 => ?_⟩
      have e1 : Same H2 (upd H2 p1 (.lst (vS s.1))) := same_new hp1
      refine ⟨_, rfl, _, _, rfl, .inl (SqL.of (Same.ways e1 h3)), fun p2 hp2 => ?_⟩
      have e2 := Same.new e1 (o := .lst (vWs s.2)) hp2
      refine ⟨by show 2 ≤ sizeLine; decide, fun p3 hp3 => ?_⟩
      have e3 := Same.new e2 (o := .tup [V.ref p1, V.ref p2]) hp3
      have q1 : (upd (upd (upd H2 p1 (.lst (vS s.1))) p2 (.lst (vWs s.2))) p3 (.tup [V.ref p1, V.ref p2])) p1 = some (.lst (vS s.1)) := by
        rw [upd_ne (ne_of_none ((upd_ne (ne_of_none upd_same hp2)).trans upd_same) hp3), upd_ne (ne_of_none upd_same hp2), upd_same]
      have q2 : (upd (upd (upd H2 p1 (.lst (vS s.1))) p2 (.lst (vWs s.2))) p3 (.tup [V.ref p1, V.ref p2])) p2 = some (.lst (vWs s.2)) := by
        rw [upd_ne (ne_of_none upd_same hp3), upd_same]
      have n2 : H2 p2 = none := e1.free hp2
      have n3 : H2 p3 = none := e2.free hp3
      have n12 : p1 ≠ p2 := ne_of_none upd_same hp2
      have hs' : F.take (i + 1) = F.take i ++ [s] := by rw [List.take_succ, hs]; rfl
      refine ⟨_, e3 _ _ hL, ?_, Same.mut (s1.trans e3) hD, L ++ [(p3, p1, p2)], ?_, ?_, ?_⟩
      · rw [List.length_map, nL.len, List.length_take]
        exact sz_lt (by omega)
      · rw [upd_same, List.map_append]
        rfl
      · rw [hs']
        have n := nL.snoc e3 hp1 n2 n12 (t := p3) (s := s) upd_same q1 q2 (.of (s1.free n3)) (.of (s1.free hp1)) (.of (s1.free n2))
        exact n.upd (e3 _ _ hL) (not_inner_snoc oD (ne_of_none hL hp1) (ne_of_none hL n2))
      · exact not_inner_snoc oD (ne_of_none hL hp1) (ne_of_none hL n2)
    · rintro H1 ⟨s1, L, hL, nL, oD⟩
      rw [List.take_length] at nL
      exact k D L H1 s1 ⟨hL, nL, .of hD, oD⟩

/-- a list of tuples that are keys -/
def MarksAt (H : Hp) (a : Addr) (ks : List NestedKey) : Prop := ∃ bs : List Addr, H a = some (.lst (bs.map V.ref)) ∧ Paired (fun b k => QD.NV H k (.ref b) ∧ k.depth ≤ 8) bs ks
def IntsAt (H : Hp) (a : Addr) (ns : List Nat) : Prop := H a = some (.lst (ns.map fun (n : Nat) => V.int (n : Int)))
def spNumbered : Sp := fun vs H Q _ => ∃ (a : Addr) (ks : List NestedKey), vs = [.ref a] ∧ MarksAt H a ks ∧ ks.length ≤ 10000 ∧ ∀ (p : Addr) (H' : Hp), Same H H' → H p = none → IntsAt H' p (QD.numb ks) → Q (.ref p) H'
theorem ok_numbered (X : TX K mg) : FnOk P w K mg base CX0 1 X.d_numbered.a X.d_numbered.fd ["marks"] spNumbered := by
  have nd := sc_numbered.nd
  refine X.d_numbered.F.ok sc_numbered (fun vs H Q E h => ?_) (fun cdv A outer s H vs Q E hr h => ?_)
  · obtain ⟨a, ks, rfl, _⟩ := h
    rfl
  · obtain ⟨a, ks, rfl, ⟨bs, hb, hbs⟩, hz, k⟩ := h
    refine ⟨_, (pss_cons (ps_set (i := 1) nd rfl (Or.inl rfl) QD.pe_newN) (pss_cons (ps_set (i := 2) nd rfl (Or.inl rfl) (pe_lst pa_nil)) (pss_cons (ps_for PassesOwn.never rfl (QB.pi_listK K (pv 0)) (pg_name (i := 3) nd rfl (Or.inl rfl)) (pss_cons (ps_if (pt_cmp (QD.pc_notinN (hu64 hr) (pv 3) (pv 1))) (pss_one (QD.ps_putN (hu64 hr) (pv 1) (pv 3) (pe_callB QD.call_lenN (by rfl) X.n_len PySem.boot_len (pa_cons (pv 1) pa_nil)) rfl)) pss_nil) (pss_one (ps_expr (QB.pe_bmK K PySem.F.plainAttrs_list PySem.F.slot_list_append PySem.F.type_list_append mt_append (pv 2) (pa_cons (QD.pe_getN (hu64 hr) (pv 1) (pv 3) (fun _ _ => rfl)) pa_nil)))))) (pss_one (ps_ret (pv 2)))))), ?_⟩
    try dsimp only [Cx.nox, Cx.wish, cxOf]
    refine fun d H1 hd o1 dn1 _ => ?_
    have s1 : Same H H1 := fun b u e => by rw [o1 b (ne_of_none e hd)]; exact e
    refine ⟨Nat.zero_le _, fun l hl => ?_⟩
    have hl0 : H l = none := s1.free hl
    have ndl : d ≠ l := by
      obtain ⟨_, xs, h1, _⟩ := dn1
      exact ne_of_none h1 hl
    refine ⟨_, rfl, _, rfl, ⟨_, SqL.of (Eq.trans (upd_ne (ne_of_none (s1 _ _ hb) hl)) (s1 _ _ hb))⟩, ?_⟩
    have hlen := Paired.length hbs
    refine for_it (walk_list (K := K) (a := a) (xs := bs.map V.ref)) (fun i σ H' => ∃ (v3 : Option V), σ = [some (.ref a), some (.ref d), some (.ref l), v3] ∧ Same H H' ∧ QD.DN P w H' d (QD.dictFrom 0 (QD.seenOf (ks.take i))) ∧ IntsAt H' l (QD.numb (ks.take i)))
      ⟨none, rfl, Same.new s1 hl, dn1.to (fun b xs e => (upd_ne (ne_of_none e hl)).trans e) (upd_ne ndl), upd_same⟩ (fun i σ H' _ ⟨_, _, s2, _⟩ => SqL.of (s2 _ _ hb)) ?_ ?_
    · rintro i x σ H2 H3 hi ⟨v3, rfl, s2, dn, hI⟩ ⟨rfl, hx⟩
      rw [List.length_map] at hi
      have hbi : bs[i]? = some bs[i] := List.getElem?_eq_getElem hi
      rw [List.getElem?_map, hbi] at hx
      cases hx
      obtain ⟨m, hm, nv, dp⟩ := paired_get' hbs hbi
      have nv3 : QD.NV H3 m (.ref bs[i]) := nv.to fun b xs e => s2 _ _ e
      have htk : ks.take (i + 1) = ks.take i ++ [m] := by rw [List.take_succ, hm]; rfl
      have hsl := QD.seenOf_len (ks.take i)
      rw [List.length_take] at hsl
      have hIl : (QD.numb (ks.take i)).length ≤ 10000 := by rw [QD.numb_len, List.length_take]; omega
      refine ⟨_, rfl, _, rfl, d, bs[i], _, m, rfl, rfl, dn, nv3, dp, _, rfl, ?_⟩
      rw [QD.valV_dictFrom]
      by_cases hin : m ∈ QD.seenOf (ks.take i)
      · rw [if_pos hin]
        refine ⟨_, rfl, .inl ⟨rfl, _, SqL.of hI⟩, ?_⟩
        refine ⟨_, rfl, _, rfl, d, bs[i], _, m, _, rfl, rfl, dn, nv3, dp, (by rw [QD.valV_dictFrom, if_pos hin]), ?_⟩
        refine ⟨l, _, _, rfl, rfl, hI, sz_lt (by rw [List.length_map]; omega), ?_⟩
        refine ⟨_, rfl, Same.mut s2 hl0, dn.to (fun b xs e => (upd_ne (ne_of e hI (fun z => nomatch z))).trans e) (upd_ne ?_) |> (fun z => by rw [htk, QD.seenOf_snoc]; unfold QD.addSeen; rw [if_pos hin]; exact z), ?_⟩
        · obtain ⟨_, xs, h1, _⟩ := dn
          exact ne_of h1 hI (fun z => nomatch z)
        · rw [htk]
          unfold IntsAt
          rw [upd_same, QD.numb_snoc, List.map_append]
          unfold QD.addSeen
          rw [if_pos hin, Nat.zero_add]
          rfl
      · rw [if_neg hin]
        refine ⟨_, rfl, d, _, rfl, dn, _, rfl, _, rfl, d, bs[i], _, m, rfl, rfl, dn, nv3, dp, sz_lt (by rw [QD.dictFrom_len]; omega), fun H4 o4 dn4 _ => ?_⟩
        rw [QD.dictFrom_len] at dn4
        have dn5 : QD.DN P w H4 d (QD.dictFrom 0 (QD.seenOf (ks.take i) ++ [m])) := by
          have e := QD.putK_dictFrom (n := 0) hin
          rw [Nat.zero_add] at e
          rw [← e]
          exact dn4
        have ndl2 : l ≠ d := by
          obtain ⟨_, xs, h1, _⟩ := dn
          exact (ne_of h1 hI (fun z => nomatch z)).symm
        have hd3 : ∀ b xs, H3 b = some (.tup xs) → H4 b = some (.tup xs) := fun b xs e => by
          obtain ⟨_, ys, h1, _⟩ := dn
          exact (o4 b (ne_of e h1 (fun z => nomatch z))).trans e
        have nv4 := nv3.to hd3
        have hI4 : IntsAt H4 l (QD.numb (ks.take i)) := (o4 l ndl2).trans hI
        have s4 : Same H H4 := fun b u e => (o4 b (ne_of_none e hd)).trans (s2 b u e)
        refine ⟨_, rfl, .inl ⟨rfl, _, SqL.of hI4⟩, ?_⟩
        refine ⟨_, rfl, _, rfl, d, bs[i], _, m, _, rfl, rfl, dn5, nv4, dp, (by rw [QD.valV_dictFrom, if_pos (by simp)]), ?_⟩
        refine ⟨l, _, _, rfl, rfl, hI4, sz_lt (by rw [List.length_map]; omega), ?_⟩
        refine ⟨_, rfl, Same.mut s4 hl0, dn5.to (fun b xs e => (upd_ne (ne_of e hI4 (fun z => nomatch z))).trans e) (upd_ne ndl2.symm) |> (fun z => by rw [htk, QD.seenOf_snoc]; unfold QD.addSeen; rw [if_neg hin]; exact z), ?_⟩
        rw [htk]
        unfold IntsAt
        rw [upd_same, QD.numb_snoc, List.map_append]
        unfold QD.addSeen
        rw [if_neg hin, Nat.zero_add]
        rfl
    · rintro σ H2 ⟨v3, rfl, s2, dn, hI⟩
      rw [List.take_of_length_le (by rw [List.length_map]; omega)] at hI
      exact ⟨_, rfl, k l H2 s2 hl0 hI⟩
end
end Law
end

section
set_option Elab.async false
set_option linter.all false
set_option maxRecDepth 100000
set_option maxHeartbeats 4000000
namespace Law
open PySem PySem.Spec PyProof.Rows L2 LamX QB QM
section
variable {P : Program} {w : World} {K : PySem.W.Frag} {mg : Str → Option Value} {base : Heap}
theorem ints_get {ns : List Nat} {k n : Nat} (h : ns[k]? = some n) : (ns.map fun (n : Nat) => V.int (n : Int))[k]? = some (.int (n : Int)) := by
  rw [List.getElem?_map, h]
  rfl
theorem Same.ints {H H' : Hp} {a : Addr} {ns : List Nat} (e : Same H H') (h : IntsAt H a ns) : IntsAt H' a ns := e _ _ h
theorem Same.marks {H H' : Hp} {a : Addr} {ks : List NestedKey} (e : Same H H') (h : MarksAt H a ks) : MarksAt H' a ks := by
  obtain ⟨bs, h1, h2⟩ := h
  exact ⟨bs, e _ _ h1, L2.Paired.mapP h2 fun b k z => ⟨z.1.to fun c xs e' => e _ _ e', z.2⟩⟩
/-- the standings' ways lead to standings -/
def WaysIn (F : Form) : Prop := ∀ s ∈ F, s.2.length ≤ 100 ∧ ∀ n, some n ∈ s.2 → n < F.length
theorem nvs_ints {H : Hp} (f : α → Int) : ∀ l : List α, QD.NVs H (l.map fun x => NestedKey.num (f x)) (l.map fun x => V.int (f x))
  | [] => .nil
  | _ :: l => .cons (.num _) (nvs_ints f l)
def wayInt (cs : List Nat) : Option Nat → Int
  | none => -1
  | some n => ((cs.getD n 0 : Nat) : Int)
theorem wayNum_eq (cs : List Nat) (w : Option Nat) : wayNum cs w = .num (wayInt cs w) := by cases w <;> rfl
theorem depthAll_num (f : α → Int) : ∀ l : List α, NestedKey.depthAll (l.map fun x => NestedKey.num (f x)) = 0
  | [] => rfl
  | _ :: l => by
    show max (NestedKey.depth (.num _)) (NestedKey.depthAll _) = 0
    rw [depthAll_num f l]
    rfl
def spParted : Sp := fun vs H Q _ => ∃ (a b : Addr) (cs : List Nat) (F : Form), vs = [.ref a, .ref b] ∧ IntsAt H a cs ∧ FormAt H b F ∧ cs.length = F.length ∧ F.length ≤ 5000 ∧ WaysIn F ∧
  ∀ (p : Addr) (H' : Hp), Same H H' → H p = none → IntsAt H' p (part cs F) → Q (.ref p) H'
theorem ok_parted (X : TX K mg) : FnOk P w K mg base CX0 2 X.d_parted.a X.d_parted.fd ["classes", "standings"] spParted := by
  have nd := sc_parted.nd
  refine X.d_parted.F.ok sc_parted (fun vs H Q E h => ?_) (fun cdv A outer s H vs Q E hr h => ?_)
  · obtain ⟨a, b, cs, F, rfl, _⟩ := h
    rfl
  · obtain ⟨a, b, cs, F, rfl, hc, hF, hlen, hz, hin, k⟩ := h
    refine ⟨_, (pss_cons (ps_set (i := 2) nd rfl (Or.inl rfl) (pe_lst pa_nil)) (pss_cons (ps_for PassesOwn.never rfl (QB.pi_zipK K (by rfl) X.n_zip (pa_cons (pv 0) (pa_cons (pv 1) pa_nil))) (pg_tup (by rfl) (pgs_cons (pg_name (i := 3) nd rfl (Or.inl rfl)) (pgs_cons (pg_tup (by rfl) (pgs_cons (pg_name (i := 4) nd rfl (Or.inl rfl)) (pgs_cons (pg_name (i := 5) nd rfl (Or.inl rfl)) (pgs_nil)))) (pgs_nil)))) (pss_one (ps_expr (QB.pe_bmK K PySem.F.plainAttrs_list PySem.F.slot_list_append PySem.F.type_list_append mt_append (pv 2) (pa_cons (pe_tup (pa_cons (pv 3) (pa_cons (pe_callTy (QB.call_tupleK K) (by rfl) X.n_tuple QB.bo_tuple (pa_cons (pe_lc (own := [("way", 6)]) (g := gName 6) (tt := tYes) rfl nd (QB.pi_listK K (pv 5)) (blkOk_by (N := ["classes", "standings", "marks", "number", "_", "ways", "way"]) (sc := defScope s_parted) (by decide +kernel)) (fun _ _ _ _ _ => pg_name (i := 6) nd rfl (Or.inl rfl)) (fun _ _ _ _ _ => pts_nil) (fun _ _ _ _ _ => (pe_ifExp (pt_cmpR op_isN (pv 6) pe_non (nomark _)) (pe_un un_neg pe_int) (pe_ix (QB.ix_listK K) (pv 0) (pv 6) (fun _ _ => rfl))))) pa_nil)) pa_nil))) pa_nil))))) (pss_one (ps_ret (pe_call (ok_numbered X) (hr.mono (by decide)) rfl X.d_numbered.mg X.d_numbered.F.kp X.d_numbered.b .nil pass0 (pa_cons (pv 2) pa_nil)))))), ?_⟩
    try dsimp only [Cx.nox, Cx.wish, cxOf]
    refine ⟨Nat.zero_le _, fun l hl => ?_⟩
    have s0 : Same H (upd H l (.lst [])) := same_new hl
    obtain ⟨ts, hts, hpr⟩ := hF
    have hlt := Paired.length hpr
    refine ⟨_, rfl, _, rfl, _, _, _, _, rfl, SqL.of (Same.ints s0 hc), SqL.of (s0 _ _ hts), ?_⟩
    refine for_it (walk_zip (K := K) (a := a) (b := b) (n := F.length) (by rw [List.length_map, List.length_map]; omega)) (fun i σ H' => ∃ (v3 v4 v5 : Option V), σ = [some (.ref a), some (.ref b), some (.ref l), v3, v4, v5, none] ∧ Same H H' ∧ MarksAt H' l ((partKeys cs F).take i))
      ⟨none, none, none, rfl, s0, [], upd_same, .nil⟩ (fun i σ H' _ ⟨_, _, _, _, s1, _⟩ => ⟨SqL.of (Same.ints s1 hc), SqL.of (s1 _ _ hts)⟩) ?_ ?_
    · rintro i x σ H1 H2 hi ⟨v3, v4, v5, rfl, s1, ms, hms, hpm⟩ ⟨tp, x1, x2, rfl, ntp, rfl, e1, e2⟩
      have hci : cs[i]? = some (cs[i]'(by omega)) := List.getElem?_eq_getElem _
      have e1 : (cs.map fun (n : Nat) => V.int (n : Int))[i]? = some x1 := e1
      rw [ints_get hci] at e1
      cases e1
      have hFi : F[i]? = some F[i] := List.getElem?_eq_getElem hi
      obtain ⟨t, ht, p1, p2, f1, f2, f3⟩ := paired_get hpr hFi
      have e2 : (ts.map V.ref)[i]? = some x2 := e2
      rw [List.getElem?_map, ht] at e2
      cases e2
      have s2 : Same H (upd H1 tp (.tup [.int ((cs[i]'(by omega) : Nat) : Int), .ref t])) := Same.new s1 ntp
      have s12 : Same H1 (upd H1 tp (.tup [.int ((cs[i]'(by omega) : Nat) : Int), .ref t])) := same_new ntp
      refine ⟨tp, _, rfl, SqT.of upd_same, rfl, _, _, rfl, _, _, rfl, ⟨t, _, rfl, SqT.of (s2 _ _ f1), rfl, _, _, rfl, _, _, rfl, rfl, rfl, ?_⟩⟩
      refine ⟨_, rfl, .inl ⟨rfl, _, SqL.of (s12 _ _ hms)⟩, ?_⟩
      refine ⟨_, rfl, _, rfl, _, rfl, ⟨_, SqL.of (Same.ways s2 f3)⟩, fun D hD => ?_⟩
      refine lc_map (walk_listWs (K := K) (a := p2) (ws := F[i].2)) hD (by have := (hin _ (mem_of hFi)).1; omega) (fun H3 s3 => Same.ways (s2.trans s3) f3) (fun j => .int (wayInt cs (F[i].2[j]?).join)) ?_ ?_
      · rintro j x H3 H4 kk hj s3 ⟨y, hy, rfl, rfl⟩ hk
        have hk' := hk H4 (Same.refl H4)
        rw [hy] at hk'
        refine ⟨rfl, _, rfl, rfl, _, rfl, ?_⟩
        rw [vW_is]
        cases y with
        | none => exact iteT ⟨1, rfl, hk'⟩
        | some n =>
          have hn : n < cs.length := by rw [hlen]; exact (hin _ (mem_of hFi)).2 n (List.mem_of_getElem? hy)
          have hcn : cs[n]? = some cs[n] := List.getElem?_eq_getElem hn
          refine iteF ⟨_, rfl, _, rfl, _, _, _, _, rfl, rfl, SqL.of (Same.ints (s2.trans s3) hc), atI_nat (ints_get hcn), ?_⟩
          have e3 : wayInt cs (some n) = ((cs[n] : Nat) : Int) := by
            show ((cs.getD n 0 : Nat) : Int) = _
            rw [List.getD_eq_getElem?_getD, hcn]
            rfl
          rw [← e3]
          exact hk'
      · intro H3 s3 hD3
        rw [range_map_get _ F[i].2 (fun w => .int (wayInt cs w)) (fun j x hx => by rw [hx]; rfl)] at hD3
        refine ⟨D, _, rfl, .inl ⟨SqL.of hD3, fun q hq => ?_⟩⟩
        refine ⟨by show 2 ≤ sizeLine; decide, fun r hr' => ?_⟩
        have s4 : Same (upd H1 tp (.tup [.int ((cs[i]'(by omega) : Nat) : Int), .ref t])) (upd (upd H3 q (.tup (F[i].2.map fun w => V.int (wayInt cs w)))) r (.tup [.int ((cs[i]'(by omega) : Nat) : Int), .ref q])) := Same.new (Same.new s3 hq) hr'
        have s5 := s12.trans s4
        have hl5 := s5 _ _ hms
        refine ⟨l, _, _, rfl, rfl, hl5, sz_lt ?_, ?_⟩
        · rw [List.length_map, Paired.length hpm, List.length_take]
          omega
        · refine ⟨_, _, _, rfl, Same.mut (s1.trans s5) hl, ms ++ [r], ?_, ?_⟩
          · rw [upd_same, List.map_append]
            rfl
          · have hpk : (partKeys cs F)[i]? = some (partKey cs (cs[i]'(by omega), F[i])) := by
              have ez : (cs.zip F)[i]? = some (cs[i]'(by omega), F[i]) := by
                rw [List.getElem?_zip_eq_some]
                exact ⟨hci, hFi⟩
              unfold partKeys
              rw [List.getElem?_map, ez]
              rfl
            rw [List.take_succ, hpk]
            have tk : ∀ c xs, H1 c = some (.tup xs) → (upd (upd (upd H3 q (.tup (F[i].2.map fun w => V.int (wayInt cs w)))) r (.tup [.int ((cs[i]'(by omega) : Nat) : Int), .ref q])) l (.lst (ms.map V.ref ++ [V.ref r]))) c = some (.tup xs) := fun c xs e =>
              (upd_ne (ne_of e hms (fun z => nomatch z))).trans (s5 _ _ e)
            refine Paired.snoc (L2.Paired.mapP hpm fun b k z => ⟨z.1.to tk, z.2⟩) ⟨?_, ?_⟩
            · have qr : (upd (upd (upd H3 q (.tup (F[i].2.map fun w => V.int (wayInt cs w)))) r (.tup [.int ((cs[i]'(by omega) : Nat) : Int), .ref q])) l (.lst (ms.map V.ref ++ [V.ref r]))) r = some (.tup [.int ((cs[i]'(by omega) : Nat) : Int), .ref q]) :=
                (upd_ne (ne_of upd_same hl5 (fun z => nomatch z))).trans upd_same
              have qq : (upd (upd (upd H3 q (.tup (F[i].2.map fun w => V.int (wayInt cs w)))) r (.tup [.int ((cs[i]'(by omega) : Nat) : Int), .ref q])) l (.lst (ms.map V.ref ++ [V.ref r]))) q = some (.tup (F[i].2.map fun w => V.int (wayInt cs w))) := by
                have z1 : (upd (upd H3 q (.tup (F[i].2.map fun w => V.int (wayInt cs w)))) r (.tup [.int ((cs[i]'(by omega) : Nat) : Int), .ref q])) q = some (.tup (F[i].2.map fun w => V.int (wayInt cs w))) := (upd_ne (ne_of_none upd_same hr')).trans upd_same
                exact (upd_ne (ne_of z1 hl5 (fun z => nomatch z))).trans z1
              refine .tup qr (.cons (.num _) (.cons (.tup qq ?_) .nil))
              have e9 : F[i].2.map (wayNum cs) = F[i].2.map fun w => NestedKey.num (wayInt cs w) := List.map_congr_left fun w _ => wayNum_eq cs w
              rw [e9]
              exact nvs_ints _ _
            · show NestedKey.depth (.tup [.num _, .tup (F[i].2.map (wayNum cs))]) ≤ 8
              have e9 : F[i].2.map (wayNum cs) = F[i].2.map fun w => NestedKey.num (wayInt cs w) := List.map_congr_left fun w _ => wayNum_eq cs w
              rw [e9]
              simp [NestedKey.depth, NestedKey.depthAll, depthAll_num]
    · rintro σ H1 ⟨v3, v4, v5, rfl, s1, hm⟩
      rw [List.take_of_length_le (by rw [partKeys_len hlen]; exact Nat.le_refl _)] at hm
      exact ⟨_, rfl, l, _, rfl, hm, by rw [partKeys_len hlen]; omega, fun p H' s' np hp => k p H' (s1.trans s') (s1.free np) hp⟩

theorem nvs_texts {H : Hp} : ∀ l : List Str, QD.NVs H (l.map NestedKey.text) (l.map V.str)
  | [] => .nil
  | _ :: l => .cons (.text _) (nvs_texts l)
theorem depthAll_text : ∀ l : List Str, NestedKey.depthAll (l.map NestedKey.text) = 0
  | [] => rfl
  | _ :: l => by
    show max (NestedKey.depth (.text _)) (NestedKey.depthAll _) = 0
    rw [depthAll_text l]
    rfl
theorem max_run {H : Hp} {a : Addr} {cs : List Nat} {Q : VK} (h : IntsAt H a cs) (hp : 0 < cs.length) (q : Q (.int (maxOf cs : Int)) H) : rMax K [.ref a] H Q := by
  refine ⟨a, cs.map fun (n : Nat) => (n : Int), rfl, SqL.of (by rw [List.map_map]; exact h), by rw [List.length_map]; exact hp, fun m hm hle => ?_⟩
  obtain ⟨x, hx, rfl⟩ := List.mem_map.mp hm
  have e : maxOf cs = x := maxOf_eq hx fun y hy => by
    have := hle (y : Int) (List.mem_map.mpr ⟨y, hy, rfl⟩)
    omega
  rw [e] at q
  exact q
def spAlike : Sp := fun vs H Q _ => ∃ (b : Addr) (F : Form), vs = [.ref b] ∧ FormAt H b F ∧ 0 < F.length ∧ F.length ≤ 5000 ∧ WaysIn F ∧ (∀ s ∈ F, s.1.length ≤ 10000) ∧ ∀ (p : Addr) (H' : Hp), Same H H' → H p = none → IntsAt H' p (alike F) → Q (.ref p) H'
theorem ok_alike_classes (X : TX K mg) : FnOk P w K mg base CX0 3 X.d_alike_classes.a X.d_alike_classes.fd ["standings"] spAlike := by
  have nd := sc_alike_classes.nd
  refine X.d_alike_classes.F.ok sc_alike_classes (fun vs H Q E h => ?_) (fun cdv A outer s H vs Q E hr h => ?_)
  · obtain ⟨b, F, rfl, _⟩ := h
    rfl
  · obtain ⟨b, F, rfl, hF, hp, hz, hin, hw, k⟩ := h
    refine ⟨_, (pss_cons (ps_set (i := 1) nd rfl (Or.inl rfl) (pe_call (ok_numbered X) (hr.mono (by decide)) rfl X.d_numbered.mg X.d_numbered.F.kp X.d_numbered.b .nil pass0 (pa_cons (pe_lc (own := [("word", 3), ("_", 4)]) (g := gTup K 2 (gCons (gName 3) (gCons (gName 4) (gNil)))) (tt := tYes) rfl nd (QB.pi_listK K (pv 0)) (blkOk_by (N := ["standings", "classes", "many", "word", "_"]) (sc := defScope s_alike_classes) (by decide +kernel)) (fun _ _ _ _ _ => pg_tup (by rfl) (pgs_cons (pg_name (i := 3) nd rfl (Or.inl rfl)) (pgs_cons (pg_name (i := 4) nd rfl (Or.inl rfl)) (pgs_nil)))) (fun _ _ _ _ _ => pts_nil) (fun _ _ _ _ _ => (pe_callTy (QB.call_tupleK K) (by rfl) X.n_tuple QB.bo_tuple (pa_cons (pv 3) pa_nil)))) pa_nil))) (pss_cons (ps_set (i := 2) nd rfl (Or.inl rfl) pe_int) (pss_cons (ps_while PassesOwn.never (pt_cmpR op_le (pv 2) (pe_callB (QB.cr_maxK K rfl) (by rfl) X.n_max QB.bo_max (pa_cons (pv 1) pa_nil)) (nomark _)) (pss_cons (ps_set (i := 2) nd rfl (Or.inl rfl) (pe_op op_add (pe_callB (QB.cr_maxK K rfl) (by rfl) X.n_max QB.bo_max (pa_cons (pv 1) pa_nil)) pe_int)) (pss_one (ps_set (i := 1) nd rfl (Or.inl rfl) (pe_call (ok_parted X) (hr.mono (by decide)) rfl X.d_parted.mg X.d_parted.F.kp X.d_parted.b .nil pass0 (pa_cons (pv 1) (pa_cons (pv 0) pa_nil))))))) (pss_one (ps_ret (pv 1)))))), ?_⟩
    try dsimp only [Cx.nox, Cx.wish, cxOf]
    obtain ⟨vs, hv, hvl⟩ := FormAt.lst hF
    refine ⟨_, rfl, _, rfl, ⟨_, SqL.of hv⟩, fun D hD => ?_⟩
    refine lc_it (walk_listF (K := K) (p := b) (F := F)) (fun i H' => Same H H' ∧ MarksAt H' D (wordKeys (F.take i)))
      ⟨same_new hD, [], upd_same, .nil⟩ (fun i H' _ h => Same.form h.1 hF) ?_ ?_
    · rintro i x H1 H2 hi ⟨s1, ms, hms, hpm⟩ ⟨s, t, a, b', hs, rfl, rfl, h1, h2, h3⟩
      refine ⟨t, _, rfl, SqT.of h1, rfl, _, _, rfl, _, _, rfl, rfl, rfl, ?_⟩
      refine ⟨_, rfl, _, _, rfl, .inl ⟨SqL.of h2, fun q hq => ?_⟩⟩
      have e1 : Same H2 (upd H2 q (.tup (vS s.1))) := same_new hq
      have hml := Paired.length hpm
      unfold wordKeys at hml
      rw [List.length_map, List.length_take] at hml
      refine ⟨_, e1 _ _ hms, sz_lt (by rw [List.length_map]; omega), Same.mut (s1.trans e1) hD, ms ++ [q], ?_, ?_⟩
      · rw [upd_same, List.map_append]
        rfl
      · have tk : ∀ c xs, H2 c = some (.tup xs) → (upd (upd H2 q (.tup (vS s.1))) D (.lst (ms.map V.ref ++ [V.ref q]))) c = some (.tup xs) := fun c xs e =>
          (upd_ne (ne_of e hms (fun z => nomatch z))).trans (e1 _ _ e)
        have hs' : F.take (i + 1) = F.take i ++ [s] := by rw [List.take_succ, hs]; rfl
        unfold wordKeys at hpm ⊢
        rw [hs', List.map_append]
        refine Paired.snoc (L2.Paired.mapP hpm fun b k z => ⟨z.1.to tk, z.2⟩) ⟨.tup (vs := vS s.1) ((upd_ne (ne_of upd_same (e1 _ _ hms) (fun z => nomatch z))).trans upd_same) (nvs_texts _), ?_⟩
        show NestedKey.depth (.tup (s.1.map .text)) ≤ 8
        simp [NestedKey.depth, depthAll_text]
    · rintro H1 ⟨s1, hm⟩
      rw [List.take_length] at hm
      refine ⟨D, _, rfl, hm, by unfold wordKeys; rw [List.length_map]; omega, fun l H2 s2 nl hl => ?_⟩
      refine ⟨fun m σ H' => ∃ (c : Addr) (many : Nat) (cs : List Nat) (v3 v4 : Option V), σ = [some (.ref b), some (.ref c), some (.int (many : Int)), v3, v4] ∧ Same H H' ∧ H c = none ∧ IntsAt H' c cs ∧ cs.length = F.length ∧ (∀ x ∈ cs, x < F.length) ∧ m = F.length + 1 - many ∧
        many ≤ F.length ∧ ∃ f, F.length + 1 ≤ f + many ∧ alikeLoop F f many cs = alike F, ⟨_, l, 0, _, none, none, rfl, s1.trans s2, s1.free nl, hl, by rw [QD.numb_len]; exact List.length_map _, fun x hx => ?_, rfl, Nat.zero_le _, _, Nat.le_refl _, rfl⟩, ?_⟩
      · have := numb_lt' hx
        unfold wordKeys at this
        rwa [List.length_map] at this
      · rintro m σ H3 ⟨c, many, cs, v3, v4, rfl, s3, nc, hc, hcl, hclt, rfl, hmany, f, hf, hloop⟩
        have hpos : 0 < cs.length := by omega
        have hmx : maxOf cs < F.length := by
          have := (maxOf_le cs 0 (F.length - 1)).mpr ⟨Nat.zero_le _, fun x hx => by have := hclt x hx; omega⟩
          unfold maxOf
          omega
        refine ⟨_, rfl, _, rfl, ?_⟩
        dsimp only [tNil]
        refine max_run hc hpos ?_
        refine ⟨_, _, rfl, rfl, _, rfl, ?_⟩
        cases f with
        | zero => omega
        | succ f =>
          unfold alikeLoop at hloop
          by_cases hle : many ≤ maxOf cs
          · rw [if_pos (decide_eq_true (by omega))]
            rw [if_pos hle] at hloop
            refine ⟨_, fun σ' H' h => h, ?_⟩
            refine ⟨_, rfl, ?_⟩
            dsimp only [tNil]
            refine max_run hc hpos ?_
            refine ⟨_, _, rfl, rfl, ?_⟩
            refine ⟨_, rfl, _, rfl, ?_⟩
            refine ⟨c, b, cs, F, rfl, hc, Same.form s3 hF, hcl, hz, hin, fun p H4 s4 np hp4 => ?_⟩
            refine ⟨_, ?_, p, maxOf cs + 1, _, v3, v4, rfl, s3.trans s4, s3.free np, hp4, part_len hcl, fun x hx => ?_, rfl, by omega, f, by omega, hloop⟩
            · omega
            · have := numb_lt' hx
              rwa [partKeys_len hcl] at this
          · rw [if_neg (by simp; omega)]
            rw [if_neg hle] at hloop
            rw [← hloop] at k
            exact ⟨_, rfl, k c H3 s3 nc hc⟩
end
end Law
end

section
set_option Elab.async false
set_option linter.all false
set_option maxRecDepth 100000
set_option maxHeartbeats 4000000
namespace Law
open PySem PySem.Spec PyProof.Rows L2 LamX QB QM
section
variable {P : Program} {w : World} {K : PySem.W.Frag} {mg : Str → Option Value} {base : Heap}
def keysOf (cs met : List Nat) : List L2.Key := met.map fun m => (Sum.inl ((clsOf cs m : Nat) : Int) : L2.Key)
theorem mem_keysOf {cs met : List Nat} {n : Nat} : (Sum.inl ((clsOf cs n : Nat) : Int) : L2.Key) ∈ keysOf cs met ↔ clsOf cs n ∈ met.map (clsOf cs) := by
  unfold keysOf
  rw [List.mem_map, List.mem_map]
  constructor
  · rintro ⟨m, hm, e⟩
    exact ⟨m, hm, by have := Sum.inl.inj e; omega⟩
  · rintro ⟨m, hm, e⟩
    exact ⟨m, hm, by rw [e]⟩
theorem idx_keysOf {cs : List Nat} {n : Nat} (met : List Nat) : (@List.idxOf L2.Key instBEqOfDecidableEq (Sum.inl ((clsOf cs n : Nat) : Int)) (keysOf cs met)) = (met.map (clsOf cs)).idxOf (clsOf cs n) := by
  have e := QD.idxOf_map_inj (κ := L2.Key) (fun c : Nat => Sum.inl (c : Int)) (fun a b h => by have := Sum.inl.inj h; omega) (clsOf cs n) (met.map (clsOf cs))
  rw [List.map_map] at e
  exact e
theorem clsOf_get {cs : List Nat} {n : Nat} (h : n < cs.length) : cs[n]? = some (clsOf cs n) := by
  unfold clsOf
  rw [List.getD_eq_getElem?_getD, List.getElem?_eq_getElem h]
  rfl
/-- one more way looked at -/
theorem keysOf_snoc (cs met : List Nat) (n : Nat) : keysOf cs (met ++ [n]) = keysOf cs met ++ [Sum.inl ((clsOf cs n : Nat) : Int)] := by
  unfold keysOf
  rw [List.map_append]
  rfl
theorem keysOf_len (cs met : List Nat) : (keysOf cs met).length = met.length := List.length_map _
/-- the word of the m-th standing of a form of one's own -/
def wAd (Lb : List Tri) (m : Nat) : Addr := ((Lb[m]?).map fun x => x.2.1).getD 0
theorem wAd_of {Lb : List Tri} {m : Nat} {x : Tri} (h : Lb[m]? = some x) : wAd Lb m = x.2.1 := by
  unfold wAd
  rw [h]
  rfl
theorem inner_cons (x : Tri) (L : List Tri) : inner (x :: L) = x.2.1 :: x.2.2 :: inner L := rfl
theorem wAd_mem {Lb : List Tri} {m : Nat} (h : m < Lb.length) : wAd Lb m ∈ inner Lb := by
  have e := List.getElem?_eq_getElem h
  rw [wAd_of e]
  exact List.mem_flatMap.mpr ⟨_, List.getElem_mem h, by simp⟩
theorem wAd_inj : ∀ {Lb : List Tri} {i j : Nat}, (inner Lb).Nodup → i < Lb.length → j < Lb.length → wAd Lb i = wAd Lb j → i = j
  | [], i, j, _, h, _, _ => absurd h (Nat.not_lt_zero _)
  | x :: Lb, 0, 0, _, _, _, _ => rfl
  | x :: Lb, 0, j + 1, nd, _, hj, e => by
    rw [inner_cons, List.nodup_cons] at nd
    have hm := wAd_mem (Lb := Lb) (m := j) (by simpa using hj)
    have e' : x.2.1 = wAd Lb j := e
    exact absurd (by rw [e']; exact List.mem_cons_of_mem _ hm) nd.1
  | x :: Lb, i + 1, 0, nd, hi, _, e => by
    rw [inner_cons, List.nodup_cons] at nd
    have hm := wAd_mem (Lb := Lb) (m := i) (by simpa using hi)
    have e' : wAd Lb i = x.2.1 := e
    exact absurd (by rw [← e']; exact List.mem_cons_of_mem _ hm) nd.1
  | x :: Lb, i + 1, j + 1, nd, hi, hj, e => by
    rw [inner_cons, List.nodup_cons, List.nodup_cons] at nd
    have e' : wAd Lb i = wAd Lb j := e
    rw [wAd_inj nd.2.2 (by simpa using hi) (by simpa using hj) e']
/-- one more standing, with a word that stood already -/
theorem newL_snoc {H0 H H' : Hp} {L : List Tri} {F : Form} {t a b : Addr} {s : Std} (n : NewL H0 H L F) (e : Same H H') (ha : a ∉ inner L) (hb : H b = none) (hab : a ≠ b) (h1 : H' t = some (.tup [.ref a, .ref b])) (h2 : WordAt H' a s.1) (h3 : WaysAt H' b s.2) (f1 : Fresh H0 t) (f2 : Fresh H0 a) (f3 : Fresh H0 b) :
    NewL H0 H' (L ++ [(t, a, b)]) (F ++ [s]) := by
  have hap : ∀ x ∈ inner L, ∀ y ∈ inner [(t, a, b)], x ≠ y := by
    intro x hx y hy z
    subst z
    rcases List.mem_cons.mp hy with hy | hy
    · rw [hy] at hx
      exact ha hx
    · rw [List.mem_singleton.mp hy] at hx
      obtain ⟨xs, hxs⟩ := n.there hx
      rw [hb] at hxs
      cases hxs
  have hone : (inner [(t, a, b)]).Nodup := by
    show [a, b].Nodup
    simp [hab]
  have hnd : (inner L ++ inner [(t, a, b)]).Nodup := List.nodup_append.mpr ⟨n.nd, hone, hap⟩
  refine ⟨Paired.snoc (n.same e).at_ ⟨h1, h2, h3⟩, fun x hx => ?_, by rw [inner_append]; exact hnd⟩
  rcases List.mem_append.mp hx with hx | hx
  · exact n.new x hx
  · rw [List.mem_singleton.mp hx]
    exact ⟨f1, f2, f3⟩
/-- where the words of what is told stand -/
structure Told (H : Hp) (Lb : List Tri) (met : List Nat) (L : List Tri) : Prop where
  words : L.map (fun x => x.2.1) = (met.take L.length).map (wAd Lb)
  ways : ∀ x ∈ L, H x.2.2 = none
theorem Told.out {H : Hp} {Lb : List Tri} {met : List Nat} {L : List Tri} {F : Form} {cs : List Nat} (T : Told H Lb met L) (nd : (inner Lb).Nodup) (hl : Lb.length = F.length) (M : Met F cs met) {k m : Nat} (hk : L.length = k) (hm : met[k]? = some m) {u : HO} (hu : H (wAd Lb m) = some u) : wAd Lb m ∉ inner L := fun h => by
  obtain ⟨x, hx, hq⟩ := mem_inner h
  rcases hq with hq | hq
  · have h1 : x.2.1 ∈ L.map (fun x => x.2.1) := List.mem_map.mpr ⟨x, hx, rfl⟩
    rw [T.words] at h1
    obtain ⟨m', h2, h3⟩ := List.mem_map.mp h1
    obtain ⟨j, hj, e⟩ := List.mem_iff_getElem.mp h2
    rw [List.length_take] at hj
    rw [List.getElem_take] at e
    have hjm : j < met.length := by omega
    have e2 : met[j]? = some m' := by rw [List.getElem?_eq_getElem hjm, e]
    have l1 := M.lt m (List.mem_of_getElem? hm)
    have l2 := M.lt m' (List.mem_of_getElem? e2)
    have e3 := wAd_inj nd (by omega) (by omega) (h3.trans hq.symm)
    subst e3
    have nm : met.Nodup := (List.pairwise_map.mp M.nd).imp fun h e => h (congrArg _ e)
    have := nd_ix nm e2 hm
    omega
  · rw [hq, T.ways x hx] at hu
    cases hu
theorem Told.snoc {H : Hp} {Lb : List Tri} {met m6 tl : List Nat} {L : List Tri} {k m : Nat} {t b : Addr} (T : Told H Lb met L) (hk : L.length = k) (hm : met[k]? = some m) (h6 : m6 = met ++ tl) (hb : H b = none) : Told H Lb m6 (L ++ [(t, wAd Lb m, b)]) := by
  subst hk
  have hlt : L.length < met.length := (List.getElem?_eq_some_iff.mp hm).1
  refine ⟨?_, fun x hx => ?_⟩
  · rw [List.map_append, T.words, h6, List.length_append, List.length_singleton, List.take_append_of_le_length (by omega), List.take_succ, hm, List.map_append]
    rfl
  · rcases List.mem_append.mp hx with hx | hx
    · exact T.ways x hx
    · rw [List.mem_singleton.mp hx]
      exact hb
def spInOrder : Sp := fun vs H Q _ => ∃ (b a : Addr) (F : Form) (cs : List Nat) (H0 : Hp) (Lb : List Tri), vs = [.ref b, .ref a] ∧ NewF H0 H b Lb F ∧ (∀ q, H q = none → Fresh H0 q) ∧ IntsAt H a cs ∧ cs.length = F.length ∧ 0 < F.length ∧ F.length ≤ 5000 ∧ WaysIn F ∧
  ∀ (p : Addr) (L : List Tri) (H' : Hp), Same H H' → NewF H0 H' p L (inOrder F cs) → Q (.ref p) H'
theorem ok_in_order_met (X : TX K mg) : FnOk P w K mg base CX0 1 X.d_in_order_met.a X.d_in_order_met.fd ["standings", "classes"] spInOrder := by
  have nd := sc_in_order_met.nd
  refine X.d_in_order_met.F.ok sc_in_order_met (fun vs H Q E h => ?_) (fun cdv A outer s H vs Q E hr h => ?_)
  · obtain ⟨b, a, F, cs, H0, Lb, rfl, _⟩ := h
    rfl
  · obtain ⟨b, a, F, cs, H0, Lb, rfl, nF, fr0, hc, hlen, hp, hz, hin, k⟩ := h
    refine ⟨_, (pss_cons (ps_set (i := 2) nd rfl (Or.inr rfl) (pe_disp (pps_cons (pe_ix (QB.ix_listK K) (pv 1) pe_int (fun _ _ => rfl)) pe_int pps_nil) (by rfl) (by rfl) (fun z => by cases z) (by decide))) (pss_cons (ps_set (i := 3) nd rfl (Or.inl rfl) (pe_lst (pa_cons pe_int pa_nil))) (pss_cons (ps_set (i := 4) nd rfl (Or.inl rfl) (pe_lst pa_nil)) (pss_cons (ps_while PassesOwn.never (pt_cmpR op_lt (pe_callB (QB.call_lenK K) (by rfl) X.n_len PySem.boot_len (pa_cons (pv 4) pa_nil)) (pe_callB (QB.call_lenK K) (by rfl) X.n_len PySem.boot_len (pa_cons (pv 3) pa_nil)) (nomark _)) (pss_cons (ps_asg (pe_ix (QB.ix_listK K) (pv 0) (pe_ix (QB.ix_listK K) (pv 3) (pe_callB (QB.call_lenK K) (by rfl) X.n_len PySem.boot_len (pa_cons (pv 4) pa_nil)) (fun _ _ => rfl)) (fun _ _ => rfl)) (pg_tup (by rfl) (pgs_cons (pg_name (i := 5) nd rfl (Or.inl rfl)) (pgs_cons (pg_name (i := 6) nd rfl (Or.inl rfl)) (pgs_nil))))) (pss_cons (ps_for PassesOwn.never rfl (QB.pi_listK K (pv 6)) (pg_name (i := 7) nd rfl (Or.inl rfl)) (pss_one (ps_if (PW.pt (pw_and (pt_cmpR op_notN (pv 7) pe_non (nomark _)) (pw_and1 (pt_cmp (pc_dnotin (hu_of hr) (pe_ix (QB.ix_listK K) (pv 1) (pv 7) (fun _ _ => rfl)) (pv 2)))))) (pss_cons (ps_dput (hu_of hr) (pv 2) (pe_ix (QB.ix_listK K) (pv 1) (pv 7) (fun _ _ => rfl)) (pe_callB (QB.call_lenK K) (by rfl) X.n_len PySem.boot_len (pa_cons (pv 3) pa_nil)) rfl) (pss_one (ps_expr (QB.pe_bmK K PySem.F.plainAttrs_list PySem.F.slot_list_append PySem.F.type_list_append mt_append (pv 3) (pa_cons (pv 7) pa_nil))))) pss_nil))) (pss_one (ps_expr (QB.pe_bmK K PySem.F.plainAttrs_list PySem.F.slot_list_append PySem.F.type_list_append mt_append (pv 4) (pa_cons (pe_tup (pa_cons (pv 5) (pa_cons (pe_lc (own := [("way", 7)]) (g := gName 7) (tt := tYes) rfl nd (QB.pi_listK K (pv 6)) (blkOk_by (N := ["standings", "classes", "numbers", "met", "told", "beside", "ways", "way"]) (sc := defScope s_in_order_met) (by decide +kernel)) (fun _ _ _ _ _ => pg_name (i := 7) nd rfl (Or.inl rfl)) (fun _ _ _ _ _ => pts_nil) (fun _ _ _ _ _ => (pe_ifExp (pt_cmpR op_isN (pv 7) pe_non (nomark _)) pe_non (pe_dget (hu_of hr) (pv 2) (pe_ix (QB.ix_listK K) (pv 1) (pv 7) (fun _ _ => rfl)) (fun _ _ => rfl))))) pa_nil))) pa_nil))))))) (pss_one (ps_ret (pv 4))))))), ?_⟩
    try dsimp only [Cx.nox, Cx.wish, cxOf]
    have hF := nF.form
    have hLb := nF.all.len
    refine fun d hd => ?_
    have s1 : Same H (upd H d (.dK [])) := same_new hd
    refine ⟨_, rfl, _, _, _, _, rfl, rfl, SqL.of (Same.ints s1 hc), atI_nat (j := 0) (ints_get (clsOf_get (by omega))), upd_same, [(Sum.inl ((clsOf cs 0 : Nat) : Int), .int 0)], rfl, by show 1 ≤ 15; decide, ?_⟩
    rw [upd_upd]
    have s2 : Same H (upd H d (.dK (L2.mergeK [] [(Sum.inl ((clsOf cs 0 : Nat) : Int), .int 0)]))) := same_new hd
    refine ⟨by show 1 ≤ sizeLine; decide, fun l hl => ?_⟩
    have s3 := Same.new s2 (o := .lst [V.int 0]) hl
    refine ⟨Nat.zero_le _, fun t ht => ?_⟩
    have s4 := Same.new s3 (o := .lst []) ht
    have ndl : d ≠ l := ne_of_none upd_same hl
    have nlt : l ≠ t := ne_of_none upd_same ht
    have ndt : d ≠ t := ne_of_none ((upd_ne ndl).trans upd_same) ht
    refine ⟨fun m σ H' => ∃ (met : List Nat) (told : Form) (L : List Tri) (v5 v6 v7 : Option V), σ = [some (.ref b), some (.ref a), some (.ref d), some (.ref l), some (.ref t), v5, v6, v7] ∧ Same H H' ∧ H' d = some (.dK (QD.dictFrom 0 (keysOf cs met))) ∧ IntsAt H' l met ∧
      H' t = some (.lst (L.map fun x => V.ref x.1)) ∧ NewL H0 H' L told ∧ Told H Lb met L ∧ t ∉ inner L ∧ l ∉ inner L ∧ Met F cs met ∧ told.length ≤ met.length ∧ m = F.length - told.length ∧ ∃ f, F.length + 1 ≤ f + told.length ∧ orderLoop F cs f met told = inOrder F cs,
      ⟨_, [0], [], [], none, none, none, rfl, s4, ?_, ?_, upd_same, NewL.nil, ⟨rfl, fun _ h => nomatch h⟩, by simp [inner], by simp [inner], ⟨by simp, fun m hm => ?_⟩, by simp, rfl, _, Nat.le_refl _, rfl⟩, ?_⟩
    · rw [upd_ne ndt, upd_ne ndl, upd_same]
      rfl
    · exact (upd_ne nlt).trans upd_same
    · rw [List.mem_singleton.mp hm]
      exact hp
    · have d0 := hd
      have l0 : H l = none := s2.free hl
      have t0 : H t = none := s3.free ht
      rintro m σ H1 ⟨met, told, L, v5, v6, v7, rfl, s5, hD, hM, hT, nL, tl_, oT, oL, met_, htm, rfl, f, hf, hloop⟩
      have hLl := nL.len
      have hml := met_.len
      refine ⟨_, rfl, _, _, rfl, .inl (SqL.of hT), _, rfl, _, _, rfl, .inl (SqL.of hM), _, _, rfl, rfl, _, rfl, ?_⟩
      rw [List.length_map, List.length_map, hLl]
      cases f with
      | zero => omega
      | succ f =>
        unfold orderLoop at hloop
        by_cases hlt : told.length < met.length
        · rw [if_pos (decide_eq_true (by omega))]
          rw [if_pos hlt] at hloop
          refine ⟨_, fun σ' H' h => h, ?_⟩
          have hmt : met[told.length]? = some (met.getD told.length 0) := by
            rw [List.getD_eq_getElem?_getD, List.getElem?_eq_getElem hlt]
            rfl
          have hmF : met.getD told.length 0 < F.length := met_.lt _ (List.mem_of_getElem? hmt)
          generalize met.getD told.length 0 = mm at hloop hmt hmF
          have hFm := stdOf_get hmF
          generalize stdOf F mm = sd at hloop hFm
          have hsin := hin sd (mem_of hFm)
          obtain ⟨xb, hxb, f4, f5, f6⟩ := nF.all.get hFm
          have f1 := nF.lst
          have f3 : (Lb.map fun x => V.ref x.1)[mm]? = some (.ref xb.1) := by rw [List.getElem?_map, hxb]; rfl
          have ew := wAd_of hxb
          have fw : Fresh H0 xb.2.1 := (nF.all.new xb (List.mem_of_getElem? hxb)).2.1
          have ow := Told.out tl_ nF.all.nd hLb met_ hLl hmt (u := .lst (vS sd.1)) (by rw [ew]; exact f5)
          rw [ew] at ow
          obtain ⟨tt, p1, p2⟩ := xb
          have f3 : (Lb.map fun x => V.ref x.1)[mm]? = some (.ref tt) := f3
          have f4 : H tt = some (.tup [.ref p1, .ref p2]) := f4
          have f5 : WordAt H p1 sd.1 := f5
          have f6 : WaysAt H p2 sd.2 := f6
          have ow : p1 ∉ inner L := ow
          have fw : Fresh H0 p1 := fw
          have ew : wAd Lb mm = p1 := ew
          -- word, ways = standings[met[len(told)]]
          refine ⟨_, rfl, _, rfl, _, rfl, _, _, rfl, .inl (SqL.of hT), ?_⟩
          rw [List.length_map, hLl]
          refine ⟨_, _, _, _, rfl, rfl, SqL.of hM, atI_nat (ints_get hmt), _, _, _, _, rfl, rfl, SqL.of (s5 _ _ f1), atI_nat f3, ?_⟩
          refine ⟨tt, _, rfl, SqT.of (s5 _ _ f4), rfl, _, _, rfl, _, _, rfl, rfl, ?_⟩
          -- for way in ways
          refine ⟨_, rfl, _, rfl, ⟨_, SqL.of (Same.ways s5 f6)⟩, ?_⟩
          refine for_it (walk_listWs (K := K) (a := p2) (ws := sd.2)) (fun i σ H' => ∃ (v7 : Option V), σ = [some (.ref b), some (.ref a), some (.ref d), some (.ref l), some (.ref t), some (.ref p1), some (.ref p2), v7] ∧ Same H H' ∧ H' d = some (.dK (QD.dictFrom 0 (keysOf cs (visitAll cs met (sd.2.take i))))) ∧
            IntsAt H' l (visitAll cs met (sd.2.take i)) ∧ H' t = some (.lst (L.map fun x => V.ref x.1)) ∧ NewL H0 H' L told) ⟨_, rfl, s5, hD, hM, hT, nL⟩ (fun i σ H' _ ⟨_, _, s6, _⟩ => Same.ways s6 f6) ?_ ?_
          · rintro i x σ H2 H3 hi ⟨v7, rfl, s6, hD6, hM6, hT6, nL6⟩ ⟨y, hy, rfl, rfl⟩
            have htk : sd.2.take (i + 1) = sd.2.take i ++ [y] := by rw [List.take_succ, hy]; rfl
            have hyF : ∀ n, y = some n → n < F.length := fun n e => hsin.2 n (by rw [← e]; exact List.mem_of_getElem? hy)
            have metI : Met F cs (visitAll cs met (sd.2.take i)) := met_.visitAll fun n hn => hsin.2 n (List.mem_of_mem_take hn)
            have hvs : visitAll cs met (sd.2.take (i + 1)) = visit cs (visitAll cs met (sd.2.take i)) y := by
              rw [htk]
              unfold visitAll
              rw [List.foldl_append]
              rfl
            generalize visitAll cs met (sd.2.take i) = mi at hD6 hM6 metI hvs
            have hmi := metI.len
            refine ⟨_, rfl, rfl, _, rfl, ?_⟩
            rw [vW_is]
            cases y with
            | none =>
              refine iteF ?_
              refine ⟨_, rfl, s6, ?_, ?_, hT6, nL6⟩
              · rw [hvs]
                exact hD6
              · rw [hvs]
                exact hM6
            | some n =>
              have hn := hyF n rfl
              have hcn := ints_get (clsOf_get (cs := cs) (n := n) (by omega))
              refine iteT ?_
              refine ⟨_, rfl, _, rfl, _, _, _, _, rfl, rfl, SqL.of (Same.ints s6 hc), atI_nat hcn, _, rfl, d, _, rfl, DGet.k (k := Sum.inl ((clsOf cs n : Nat) : Int)) hD6, _, rfl, ?_⟩
              rw [QD.valV_dictFrom]
              by_cases hmem : clsOf cs n ∈ mi.map (clsOf cs)
              · rw [if_pos (mem_keysOf.mpr hmem)]
                refine ⟨_, rfl, s6, ?_, ?_, hT6, nL6⟩
                · rw [hvs]
                  simp only [visit, if_pos hmem]
                  exact hD6
                · rw [hvs]
                  simp only [visit, if_pos hmem]
                  exact hM6
              · rw [if_neg (fun z => hmem (mem_keysOf.mp z))]
                have hnd := metI.visit (w := some n) hyF
                have hvn : visit cs mi (some n) = mi ++ [n] := by simp only [visit, if_neg hmem]
                refine ⟨_, rfl, _, _, rfl, .inl (SqL.of hM6), ?_⟩
                refine ⟨_, rfl, _, rfl, _, rfl, _, _, _, _, rfl, rfl, SqL.of (Same.ints s6 hc), atI_nat hcn, d, _, rfl, DPut.k (k := Sum.inl ((clsOf cs n : Nat) : Int)) hD6 (sz_lt (by rw [QD.dictFrom_len, keysOf_len]; omega)), ?_⟩
                have s7 := Same.mut (p := d) (o := .dK (putK (QD.dictFrom 0 (keysOf cs mi)) (Sum.inl ((clsOf cs n : Nat) : Int)) (.int ((mi.map fun (n : Nat) => V.int (n : Int)).length : Nat)))) s6 d0
                have hM7 := (upd_ne (a := d) (o := .dK (putK (QD.dictFrom 0 (keysOf cs mi)) (Sum.inl ((clsOf cs n : Nat) : Int)) (.int ((mi.map fun (n : Nat) => V.int (n : Int)).length : Nat)))) (ne_of hM6 hD6 (fun z => nomatch z))).trans hM6
                refine ⟨_, rfl, .inl ⟨rfl, _, SqL.of hM7⟩, _, rfl, l, _, _, rfl, rfl, hM7, sz_lt (by rw [List.length_map]; omega), ?_⟩
                refine ⟨_, rfl, Same.mut s7 l0, ?_, ?_, ?_, ?_⟩
                · rw [upd_ne (ne_of hD6 hM6 (fun z => nomatch z)), upd_same, hvs, hvn, keysOf_snoc, List.length_map]
                  have e := QD.putK_dictFrom (n := 0) (l := keysOf cs mi) (k := (Sum.inl ((clsOf cs n : Nat) : Int) : L2.Key)) (fun z => hmem (mem_keysOf.mp z))
                  rw [Nat.zero_add, keysOf_len] at e
                  rw [e]
                · rw [hvs, hvn]
                  unfold IntsAt
                  rw [upd_same, List.map_append]
                  rfl
                · exact (upd_ne nlt.symm).trans ((upd_ne ndt.symm).trans hT6)
                · exact NewL.upd (nL6.updD hD6) hM7 oL
          · rintro σ H2 ⟨v7, rfl, s6, hD6, hM6, hT6, nL6⟩
            rw [List.take_length] at hD6 hM6
            have met6 : Met F cs (visitAll cs met sd.2) := met_.visitAll fun n hn => hsin.2 n hn
            have hhas := fun n hn => visitAll_has cs sd.2 met n hn
            have hpre := visitAll_pre cs sd.2 met
            generalize visitAll cs met sd.2 = m6 at hD6 hM6 met6 hhas hpre hloop
            have hm6 := met6.len
            have hwf := f5
            -- told.append((list(word), [..]))
            refine ⟨_, rfl, .inl ⟨rfl, _, SqL.of hT6⟩, ?_⟩
            refine ⟨_, rfl, _, rfl, _, rfl, ⟨_, SqL.of (Same.ways s6 f6)⟩, fun q2 hq2 => ?_⟩
            refine lc_map (walk_listWs (K := K) (a := p2) (ws := sd.2)) hq2 (by have := hsin.1; omega) (fun H3 s8 => Same.ways (s6.trans s8) f6) (fun j => vW (newWay cs m6 (sd.2[j]?).join)) ?_ ?_
            · rintro j x H3 H4 kk hj s8 ⟨y, hy, rfl, rfl⟩ hk
              have hk' := hk H4 (Same.refl H4)
              rw [hy] at hk'
              refine ⟨rfl, _, rfl, rfl, _, rfl, ?_⟩
              rw [vW_is]
              cases y with
              | none => exact iteT hk'
              | some n =>
                have hns := List.mem_of_getElem? hy
                have hn := hsin.2 n hns
                refine iteF ⟨_, rfl, _, rfl, _, rfl, _, _, _, _, rfl, rfl, SqL.of (Same.ints (s6.trans s8) hc), atI_nat (ints_get (clsOf_get (by omega))), d, _, rfl, (by
                  have e := DGet.k (k := (Sum.inl ((clsOf cs n : Nat) : Int) : L2.Key)) (s8 _ _ hD6)
                  rw [QD.valV_dictFrom, if_pos (mem_keysOf.mpr (hhas n hns)), idx_keysOf, Nat.zero_add] at e
                  exact e), hk'⟩
            · intro H3 s8 hq3
              rw [range_map_get _ sd.2 (fun w => vW (newWay cs m6 w)) (fun j x hx => by rw [hx]; rfl)] at hq3
              refine ⟨by show 2 ≤ sizeLine; decide, fun q3 hq3' => ?_⟩
              have s9 := Same.new s8 (o := .tup [V.ref p1, V.ref q2]) hq3'
              have s10 := s6.trans s9
              have n2 : H2 q2 = none := hq2
              have n3 : H2 q3 = none := s8.free hq3'
              have n2' : H q2 = none := s6.free n2
              have e1 : WordAt (upd H3 q3 (.tup [V.ref p1, V.ref q2])) p1 sd.1 := Same.word s10 f5
              have e2 : (upd H3 q3 (.tup [V.ref p1, V.ref q2])) q2 = some (.lst (vWs (newStd cs m6 sd).2)) := by
                rw [upd_ne (ne_of_none hq3 hq3'), hq3]
                unfold vWs newStd
                rw [List.map_map]
                rfl
              have nq12 : p1 ≠ q2 := ne_of_none f5 n2'
              have nn := newL_snoc nL6 s9 ow n2 nq12 (t := q3) (s := newStd cs m6 sd) upd_same e1 e2 (fr0 _ (s6.free n3)) fw (fr0 _ n2')
              have oT' := not_inner_snoc (t := q3) oT (ne_of_none f5 t0).symm (ne_of_none hT6 n2)
              have oL' := not_inner_snoc (t := q3) oL (ne_of_none f5 l0).symm (ne_of_none hM6 n2)
              have hT9 := s9 _ _ hT6
              refine ⟨t, _, _, rfl, rfl, hT9, sz_lt (by rw [List.length_map]; omega), ?_⟩
              obtain ⟨tl, hpre⟩ := hpre
              have hlen6 : met.length ≤ m6.length := by rw [hpre, List.length_append]; omega
              refine ⟨_, ?_, m6, told ++ [newStd cs m6 sd], L ++ [(q3, p1, q2)], _, _, _, rfl, Same.mut s10 t0, ?_, ?_, ?_, nn.upd hT9 oT', by rw [← ew]; exact tl_.snoc hLl hmt hpre n2', oT', oL', met6, ?_, rfl, f, ?_, hloop⟩
              · rw [List.length_append, List.length_singleton]
                omega
              · exact (upd_ne ndt).trans (s9 _ _ hD6)
              · exact (upd_ne nlt).trans (s9 _ _ hM6)
              · rw [upd_same, List.map_append]
                rfl
              · rw [List.length_append, List.length_singleton]
                omega
              · rw [List.length_append, List.length_singleton]
                omega
        · rw [if_neg (by simp; omega)]
          rw [if_neg hlt] at hloop
          rw [← hloop] at k
          exact ⟨_, rfl, k t L H1 s5 ⟨hT, nL, fr0 _ t0, oT⟩⟩
end
end Law
end

section
set_option Elab.async false
set_option linter.all false
set_option maxRecDepth 100000
set_option maxHeartbeats 8000000
namespace Law
open PySem PySem.Spec PyProof.Rows L2 LamX QB QM
abbrev Tof {K : PySem.W.Frag} {mg : Str → Option Value} (X : TX K mg) : List (Addr × Str) := [(X.lam_P, ("without_needless_ways" : Str) ++ ".<locals>." ++ "<lambda>")]
section
variable {P : Program} {w : World} {K : PySem.W.Frag} {mg : Str → Option Value} {base : Heap}
theorem rep_flat (n : Nat) (x : V) : (List.replicate n [x]).flatten = List.replicate n x := by
  induction n with
  | zero => rfl
  | succ n ih => rw [List.replicate_succ, List.flatten_cons, ih, List.replicate_succ]; rfl
theorem ixN_of {n j : Nat} (h : j < n) : ixN n (j : Int) = some j := by
  unfold ixN
  rw [if_pos (by omega), if_pos (by omega), Int.toNat_natCast]
theorem set_same {α : Type} {l : List α} {k : Nat} {x : α} (h : l[k]? = some x) : l.set k x = l := by
  refine List.ext_getElem? fun i => ?_
  by_cases e : k = i
  · subst e
    rw [List.getElem?_set_self (List.getElem?_eq_some_iff.mp h).1, h]
  · rw [List.getElem?_set_ne e]
theorem vWs_set (ws : Ways) (k : Nat) (w : Option Nat) : (vWs ws).set k (vW w) = vWs (ws.set k w) := (List.map_set ..).symm
theorem tri_get {L : List Tri} {k : Nat} {x : Tri} (h : L[k]? = some x) : (L.map fun x => V.ref x.1)[k]? = some (.ref x.1) := by
  rw [List.getElem?_map, h]
  rfl
/-- tags that are texts, words of tags -/
structure WordsOk (tags : List Str) (F : Form) : Prop where
  txt : ∀ t ∈ tags, PyData.strOk t = true
  sub : ∀ s ∈ F, ∀ t ∈ s.1, t ∈ tags
  len : ∀ s ∈ F, s.1.length ≤ 5000
theorem WordsOk.ok {tags : List Str} {F : Form} (o : WordsOk tags F) {k : Nat} {s : Std} (h : F[k]? = some s) : ∀ t ∈ s.1, PyData.strOk t = true := fun t ht => o.txt t (o.sub s (mem_of h) t ht)
def spNeedless (T : List (Addr × Str)) : Sp := fun vs H Q _ => ∃ (a b : Addr) (tags : List Str) (F : Form), vs = [.ref a, .ref b] ∧ WordAt H a tags ∧ FormAt H b F ∧ Good tags F ∧ WordsOk tags F ∧ tags.length ≤ 100 ∧ Tabs T H ∧
  ∀ (p : Addr) (L : List Tri) (H' : Hp), Ext T H H' → Tabs T H' → NewF H H' p L (needless tags F) → Q (.ref p) H'
theorem ok_without_needless_ways (X : TX K mg) (TB : LamX.TabB base mg X.lam_c X.lam_P) : FnOk P w K mg base CX0 2 X.d_without_needless_ways.a X.d_without_needless_ways.fd ["tags", "standings"] (spNeedless (Tof X)) := by
  have nd := sc_without_needless_ways.nd
  refine X.lam_F.ok sc_without_needless_ways (fun vs H Q E h => ?_) (fun A outer s H vs Q E hr h => ?_)
  · obtain ⟨a, b, tags, F, rfl, _⟩ := h
    rfl
  · obtain ⟨a, b, tags, F, rfl, hT, hF, g, ok, htl, tb, k⟩ := h
    refine ⟨_, (pss_cons (ps_set (i := 2) nd rfl (Or.inl rfl) (pe_call (ok_copied X) (hr.mono (by decide)) rfl X.d_copied.mg X.d_copied.F.kp X.d_copied.b .nil pass0 (pa_cons (pv 1) pa_nil))) (pss_cons (ps_set (i := 3) nd rfl (Or.inl rfl) (pe_op op_rep (pe_lst (pa_cons pe_bl pa_nil)) (pe_callB (QB.call_lenK K) (by rfl) X.n_len PySem.boot_len (pa_cons (pv 1) pa_nil)))) (pss_cons (ps_for PassesOwn.never rfl (QB.pi_listK K (QL.pe_sortLamK (i := 1) (T := Tof X) K (by rfl) X.n_sorted X.n_len (QL.pe_range1 (by rfl) X.n_range (pe_callB (QB.call_lenK K) (by rfl) X.n_len PySem.boot_len (pa_cons (pv 1) pa_nil))) rfl rfl TB rfl (List.mem_singleton.mpr rfl) (fun p hp _ => by cases List.mem_singleton.mp hp; rfl) hr)) (pg_name (i := 4) nd rfl (Or.inl rfl)) (pss_cons (ps_asg (pe_ix (QB.ix_listK K) (pv 2) (pv 4) (fun _ _ => rfl)) (pg_tup (by rfl) (pgs_cons (pg_name (i := 5) nd rfl (Or.inl rfl)) (pgs_cons (pg_name (i := 6) nd rfl (Or.inl rfl)) (pgs_nil))))) (pss_cons (ps_for PassesOwn.never rfl (QB.pi_enumK K (by rfl) X.n_enumerate (pa_cons (pv 0) pa_nil)) (pg_tup (by rfl) (pgs_cons (pg_name (i := 7) nd rfl (Or.inl rfl)) (pgs_cons (pg_name (i := 8) nd rfl (Or.inl rfl)) (pgs_nil)))) (pss_cons (ps_set (i := 9) nd rfl (Or.inl rfl) (pe_ix (QB.ix_listK K) (pv 6) (pv 7) (fun _ _ => rfl))) (pss_one (ps_if (PW.pt (pw_and (pt_cmpR op_notN (pv 9) pe_non (nomark _)) (pw_and (pt_val (pe_ix (QB.ix_listK K) (pv 3) (pv 9) (fun _ _ => rfl))) (pw_and1 (pt_cmpR (QB.op_eqDK K hr.units) (pe_ix (QB.ix_tupK K) (pe_ix (QB.ix_listK K) (pv 1) (pv 9) (fun _ _ => rfl)) pe_int (fun _ _ => rfl)) (pe_op op_cat (pv 5) (pe_lst (pa_cons (pv 8) pa_nil))) (nomark _)))))) (pss_one (ps_asg pe_non (pg_sub (pv 6) (pv 7) set_list))) pss_nil)))) (pss_one (ps_asg (pe_call (ok_is_settled_at X) (hr.mono (by decide)) rfl X.d_is_settled_at.mg X.d_is_settled_at.F.kp X.d_is_settled_at.b .nil pass0 (pa_cons (pe_ix (QB.ix_listK K) (pv 2) (pv 4) (fun _ _ => rfl)) pa_nil)) (pg_sub (pv 3) (pv 4) set_list)))))) (pss_one (ps_ret (pv 2)))))), ?_⟩
    try dsimp only [Cx.nox, Cx.wish, cxOf]
    have hlen := g.pos
    have hsm := g.small
    -- needed = copied(standings); settled = [False] * len(standings)
    refine ⟨_, rfl, b, F, rfl, hF, by omega, fun p L H1 s1 nF => ?_⟩
    obtain ⟨vs1, hv1, hvl1⟩ := FormAt.lst (Same.form s1 hF)
    refine ⟨by show 1 ≤ sizeLine; decide, fun q0 hq0 => ?_⟩
    have s2 := Same.new s1 (o := .lst [V.bl false]) hq0
    refine ⟨_, rfl, _, _, rfl, .inl (SqL.of ((same_new hq0) _ _ hv1)), ?_⟩
    refine ⟨_, _, _, rfl, rfl, upd_same, by omega, by omega, by rw [Int.toNat_natCast, hvl1]; exact sz_le (by simp; omega), fun q hq => ?_⟩
    rw [Int.toNat_natCast, hvl1, rep_flat]
    have s3 := Same.new s2 (o := .lst (List.replicate F.length (V.bl false))) hq
    have s13 : Same H1 (upd (upd H1 q0 (.lst [V.bl false])) q (.lst (List.replicate F.length (V.bl false)))) := Same.new (same_new hq0) hq
    have nF3 := nF.same s13
    have q0n : H q = none := s2.free hq
    have npq : p ≠ q := ne_of_none ((same_new hq0) _ _ nF.lst) hq
    have qin : q ∉ inner L := fun z => by
      obtain ⟨xs, hx⟩ := nF.all.there z
      exact ne_of_none ((same_new hq0) _ _ hx) hq rfl
    have hq3 : (upd (upd H1 q0 (.lst [V.bl false])) q (.lst (List.replicate F.length (V.bl false)))) q = some (.lst ((List.replicate F.length false).map V.bl)) := by rw [upd_same, List.map_replicate]
    generalize (upd (upd H1 q0 (.lst [V.bl false])) q (.lst (List.replicate F.length (V.bl false)))) = H3 at s3 nF3 hq3 s13
    -- sorted(..)
    obtain ⟨ts, hts, hpr⟩ := Same.form s3 hF
    have htsl := Paired.length hpr
    refine ⟨_, rfl, _, _, rfl, .inl (SqL.of hts), _, rfl, fun r hr0 => ?_⟩
    rw [List.length_map, htsl]
    have s4 := Same.new s3 (o := .rng 0 (F.length : Int)) hr0
    have s34 : Same H3 (upd H3 r (.rng 0 (F.length : Int))) := same_new hr0
    refine ⟨r, F.length, b, ts, keyOf F, rfl, upd_same, by omega, rfl, SqL.of (s34 _ _ hts), htsl, fun j t ht => ?_, tb.ext s4, fun p5 H5 e5 t5 n5 => ?_⟩
    · obtain ⟨s, hs, x, y, h1, h2, h3⟩ := paired_get' hpr ht
      refine ⟨x, [.ref y], vS s.1, SqT.of (s34 _ _ h1), SqL.of (s34 _ _ h2), ?_⟩
      unfold keyOf
      rw [vS_len]
      have hj := (List.getElem?_eq_some_iff.mp hs).1
      rw [stdOf_get hj] at hs
      cases hs
      rfl
    · have E5 : Ext (Tof X) H H5 := (Ext.of s4).trans ⟨e5, fun _ => t5⟩
      have E35 : Ext (Tof X) H3 H5 := (Ext.of s34).trans ⟨e5, fun _ => t5⟩
      have f5 : Fresh H p5 := E5.free n5
      have E6 := E5.new' (o := .lst ((byLen F).map fun (j : Nat) => V.int (j : Int))) n5
      have E56 : Ext (Tof X) H3 (upd H5 p5 (.lst ((byLen F).map fun (j : Nat) => V.int (j : Int)))) := E35.new' n5
      have T6 := E6.2 tb
      refine ⟨p5, rfl, ⟨_, SqL.of upd_same⟩, ?_⟩
      have nF6 := nF3.ext E56
      have hq6 := E56.lst hq3
      have n5p : p ≠ p5 := ne_of_none (E35.lst nF3.lst) n5
      have n5q : q ≠ p5 := ne_of_none (E35.lst hq3) n5
      have n5i : p5 ∉ inner L := fun z => by
        obtain ⟨xs, hx⟩ := nF3.all.there z
        exact ne_of_none (E35.lst hx) n5 rfl
      have hblen := byLen_len F
      refine for_it (walk_list (K := K) (a := p5) (xs := (byLen F).map fun (j : Nat) => V.int (j : Int))) (fun i σ H' => ∃ (v4 v5 v6 v7 v8 v9 : Option V), σ = [some (.ref a), some (.ref b), some (.ref p), some (.ref q), v4, v5, v6, v7, v8, v9] ∧ Ext (Tof X) H H' ∧ Tabs (Tof X) H' ∧
        H' p = some (.lst (L.map fun x => V.ref x.1)) ∧ NewL H H' L (needFold tags F ((byLen F).take i)).1 ∧ H' q = some (.lst ((needFold tags F ((byLen F).take i)).2.map V.bl)) ∧ H' p5 = some (.lst ((byLen F).map fun (j : Nat) => V.int (j : Int))))
        ⟨none, none, none, none, none, none, rfl, E6, T6, nF6.lst, nF6.all, hq6, upd_same⟩ (fun i σ H' _ ⟨_, _, _, _, _, _, _, _, _, _, _, _, h⟩ => SqL.of h) ?_ ?_
      · rintro i x σ H7 H8 hi ⟨v4, v5, v6, v7, v8, v9, rfl, E7, T7, hp7, nL7, hq7, h57⟩ ⟨rfl, hx⟩
        rw [List.length_map, hblen] at hi
        have hbi : (byLen F)[i]? = some ((byLen F)[i]'(by omega)) := List.getElem?_eq_getElem _
        have hstep : needFold tags F ((byLen F).take (i + 1)) = needStep tags F (needFold tags F ((byLen F).take i)) ((byLen F)[i]'(by omega)) := by
          unfold needFold
          rw [List.take_succ, hbi, List.foldl_append]
          rfl
        have hkF : (byLen F)[i]'(by omega) < F.length := byLen_lt (List.mem_of_getElem? hbi)
        have pr : Pruned tags F (needFold tags F ((byLen F).take i)) := Pruned.fold g _ _ (Pruned.start tags F) fun k hk => byLen_lt (List.mem_of_mem_take hk)
        rw [List.getElem?_map, hbi] at hx
        cases hx
        rw [hstep]
        generalize (byLen F)[i]'(by omega) = kk at hkF
        generalize needFold tags F ((byLen F).take i) = st at nL7 hq7 pr
        obtain ⟨N, S⟩ := st
        have hNl : N.length = F.length := pr.len
        have hSl : S.length = F.length := pr.lenS
        have hN : N[kk]? = some (stdOf N kk) := stdOf_get (by omega)
        obtain ⟨w1, w2, w3⟩ := pr.word kk _ hN
        have hsl : (stdOf N kk).2.length = tags.length := w2.trans (g.ways (stdOf_get hkF))
        have hPl : (pruneWays tags F S (stdOf N kk)).length = (stdOf N kk).2.length := (pruneWays_len hsl).trans hsl.symm
        have hwF : (stdOf N kk).1.length ≤ 5000 := by rw [w1]; exact ok.len _ (mem_of (stdOf_get hkF))
        have hwok : ∀ t ∈ (stdOf N kk).1, PyData.strOk t = true := by rw [w1]; exact ok.ok (stdOf_get hkF)
        have hstp : needStep tags F (N, S) kk = (N.set kk ((stdOf N kk).1, pruneWays tags F S (stdOf N kk)), S.set kk ((pruneWays tags F S (stdOf N kk)).all Option.isNone)) := rfl
        rw [hstp]
        have hPg : ∀ (j : Nat) (t : Str) (y : Option Nat), tags[j]? = some t → (stdOf N kk).2[j]? = some y → (pruneWays tags F S (stdOf N kk))[j]? = some (pruneWay F S (stdOf N kk).1 t y) := fun j t y h1 h2 => pruneWays_get h1 h2
        generalize pruneWays tags F S (stdOf N kk) = Pw at hPl hPg
        generalize stdOf N kk = sd at hN w1 w2 w3 hsl hPl hwF hwok hPg
        obtain ⟨x3, hx3, g1, g2, g3⟩ := NewL.get nL7 hN
        have hfr := nL7.new x3 (List.mem_of_getElem? hx3)
        have hin3 : x3.2.2 ∈ inner L := List.mem_flatMap.mpr ⟨x3, List.mem_of_getElem? hx3, by simp⟩
        have np3 : p ≠ x3.2.2 := fun z => nF.out (z ▸ hin3)
        have nq3 : q ≠ x3.2.2 := fun z => qin (z ▸ hin3)
        have n53 : p5 ≠ x3.2.2 := fun z => n5i (z ▸ hin3)
        refine ⟨_, rfl, _, rfl, _, _, _, _, rfl, rfl, SqL.of hp7, atI_nat (tri_get hx3), ?_⟩
        refine ⟨x3.1, _, rfl, SqT.of g1, rfl, _, _, rfl, _, _, rfl, rfl, ?_⟩
        refine ⟨_, rfl, _, _, rfl, SqL.of (E7.word hT), ?_⟩
        refine for_it (walk_enumW (K := K) (a := a) (w := tags)) (fun j σ H' => ∃ (v7 v8 v9 : Option V), σ = [some (.ref a), some (.ref b), some (.ref p), some (.ref q), some (.int (kk : Int)), some (.ref x3.2.1), some (.ref x3.2.2), v7, v8, v9] ∧ Ext (Tof X) H H' ∧
          H' p = some (.lst (L.map fun x => V.ref x.1)) ∧ NewL H H' L (N.set kk (sd.1, Pw.take j ++ sd.2.drop j)) ∧ H' q = some (.lst (S.map V.bl)) ∧ H' p5 = some (.lst ((byLen F).map fun (j : Nat) => V.int (j : Int))))
          ⟨v7, v8, v9, rfl, E7, hp7, by rw [show (sd.1, Pw.take 0 ++ sd.2.drop 0) = sd from rfl, set_same hN]; exact nL7, hq7, h57⟩ (fun j σ H' _ ⟨_, _, _, _, E, _⟩ => E.word hT) ?_ ?_
        · rintro j v σ H9 H10 hj ⟨u7, u8, u9, rfl, E9, hp9, nL9, hq9, h59⟩ ⟨tp, t, ht, ntp, rfl, rfl⟩
          have htt : t ∈ tags := List.mem_of_getElem? ht
          have s9 : Same H9 (upd H9 tp (.tup [.int (j : Int), .str t])) := same_new ntp
          have E10 := E9.trans (.of s9)
          have nL10 := nL9.same s9
          have hp10 := s9 _ _ hp9
          have hq10 := s9 _ _ hq9
          have h510 := s9 _ _ h59
          refine ⟨tp, _, rfl, SqT.of upd_same, rfl, _, _, rfl, _, _, rfl, rfl, ?_⟩
          generalize upd H9 tp (.tup [.int (j : Int), .str t]) = H10 at s9 E10 nL10 hp10 hq10 h510
          have hj2 : j < sd.2.length := by omega
          have hy : sd.2[j]? = some sd.2[j] := List.getElem?_eq_getElem hj2
          have hset : (N.set kk (sd.1, Pw.take j ++ sd.2.drop j))[kk]? = some (sd.1, Pw.take j ++ sd.2.drop j) := List.getElem?_set_self (by omega)
          obtain ⟨x', hx', y1, y2, y3⟩ := nL10.get hset
          rw [hx3] at hx'
          cases hx'
          have hmix : (Pw.take j ++ sd.2.drop j)[j]? = some sd.2[j] := (mix_get hPl hj2).trans hy
          have hPj := hPg j t _ ht hy
          refine ⟨_, rfl, _, rfl, _, _, _, _, rfl, rfl, SqL.of y3, atI_nat (vWs_get hmix), ?_⟩
          refine ⟨_, rfl, rfl, _, rfl, ?_⟩
          rw [vW_is]
          -- the way stays
          have stay : ∀ (H' : Hp) (u9 : V), Same H10 H' → Pw[j]? = some sd.2[j] → ∃ (v7 v8 v9 : Option V), [some (V.ref a), some (.ref b), some (.ref p), some (.ref q), some (.int (kk : Int)), some (.ref x3.2.1), some (.ref x3.2.2), some (.int (j : Int)), some (.str t), some u9] = [some (.ref a), some (.ref b), some (.ref p), some (.ref q), some (.int (kk : Int)), some (.ref x3.2.1), some (.ref x3.2.2), v7, v8, v9] ∧ Ext (Tof X) H H' ∧
              H' p = some (.lst (L.map fun x => V.ref x.1)) ∧ NewL H H' L (N.set kk (sd.1, Pw.take (j + 1) ++ sd.2.drop (j + 1))) ∧ H' q = some (.lst (S.map V.bl)) ∧ H' p5 = some (.lst ((byLen F).map fun (j : Nat) => V.int (j : Int))) := fun H' u9 s' e =>
            ⟨_, _, _, rfl, E10.trans (.of s'), s' _ _ hp10, by rw [← mix_same hPl e hy]; exact nL10.same s', s' _ _ hq10, s' _ _ h510⟩
          generalize sd.2[j] = y at hy hmix hPj stay
          cases y with
          | none => exact iteF (stay H10 _ (Same.refl _) hPj)
          | some n =>
            have hnF : n < F.length := g.to _ (mem_of (stdOf_get hkF)) n (w3 n (List.mem_of_getElem? hy))
            have hSn : (S.map V.bl)[n]? = some (.bl (S.getD n false)) := by
              rw [List.getElem?_map, List.getElem?_eq_getElem (by omega), List.getD_eq_getElem?_getD, List.getElem?_eq_getElem (by omega)]
              rfl
            refine iteT ?_
            refine ⟨_, rfl, _, rfl, _, _, _, _, rfl, rfl, SqL.of hq10, atI_nat hSn, _, rfl, ?_⟩
            have hPj' : Pw[j]? = some (if (S.getD n false && decide ((stdOf F n).1 = sd.1 ++ [t])) = true then none else some n) := hPj
            cases hSb : S.getD n false with
            | false =>
              rw [hSb, Bool.false_and, if_neg Bool.false_ne_true] at hPj'
              exact iteF (stay H10 _ (Same.refl _) hPj')
            | true =>
              rw [hSb, Bool.true_and] at hPj'
              refine iteT ?_
              obtain ⟨vs2, tt, z1, z2, f1, f2, f3, f4, f5, f6⟩ := (E10.form hF).at (stdOf_get hnF)
              refine ⟨_, rfl, _, rfl, _, _, _, _, rfl, rfl, SqL.of f1, atI_nat f3, _, _, _, _, rfl, rfl, SqT.of f4, rfl, ?_⟩
              refine ⟨_, rfl, _, rfl, by show 1 ≤ sizeLine; decide, fun r1 hr1 => ?_⟩
              have sA : Same H10 (upd H10 r1 (.lst [V.str t])) := same_new hr1
              refine ⟨_, _, _, _, rfl, rfl, sA _ _ y2, upd_same, by rw [vS_len]; exact sz_le (by simp; omega), fun r2 hr2 => ?_⟩
              have sB : Same H10 (upd (upd H10 r1 (.lst [V.str t])) r2 (.lst (vS sd.1 ++ [V.str t]))) := Same.new sA hr2
              have hw2 : WordAt (upd (upd H10 r1 (.lst [V.str t])) r2 (.lst (vS sd.1 ++ [V.str t]))) r2 (sd.1 ++ [t]) := by
                unfold WordAt
                rw [upd_same, ← vS_append]
                rfl
              generalize upd (upd H10 r1 (.lst [V.str t])) r2 (.lst (vS sd.1 ++ [V.str t])) = H11 at sB hw2
              refine eq_words (Same.word sB f5) hw2 (ok.ok (stdOf_get hnF)) (fun u hu => ?_) ⟨_, rfl, ?_⟩
              · rcases List.mem_append.mp hu with hu | hu
                · exact hwok u hu
                · rw [List.mem_singleton.mp hu]
                  exact ok.txt t htt
              · by_cases he : (stdOf F n).1 = sd.1 ++ [t]
                · rw [if_pos (decide_eq_true he)] at hPj'
                  rw [if_pos (decide_eq_true he)]
                  have E11 := E10.trans (.of sB)
                  have nL11 := nL10.same sB
                  have y11 := Same.ways sB y3
                  refine ⟨_, rfl, _, rfl, x3.2.2, _, _, j, rfl, rfl, y11, ixN_of (by rw [vWs_len, List.length_append, List.length_take, List.length_drop]; omega), ?_⟩
                  have en := nL11.setWays (ws := (Pw.take j ++ sd.2.drop j).set j none) hx3 hset
                  rw [List.set_set, mix_set hPl hPj'] at en
                  have ew : (vWs (Pw.take j ++ sd.2.drop j)).set j .non = vWs (Pw.take (j + 1) ++ sd.2.drop (j + 1)) := by
                    rw [show V.non = vW none from rfl, vWs_set, mix_set hPl hPj']
                  rw [ew]
                  exact ⟨_, _, _, rfl, E11.mut hfr.2.2 y11, (upd_ne np3).trans (sB _ _ hp10), en, (upd_ne nq3).trans (sB _ _ hq10), (upd_ne n53).trans (sB _ _ h510)⟩
                · rw [if_neg (by simpa using he)] at hPj'
                  rw [if_neg (by simpa using he)]
                  exact stay H11 _ sB hPj'
        · rintro σ H9 ⟨u7, u8, u9, rfl, E9, hp9, nL9, hq9, h59⟩
          have hfull : Pw.take tags.length ++ sd.2.drop tags.length = Pw := by
            rw [List.take_of_length_le (by omega), List.drop_eq_nil_of_le (by omega), List.append_nil]
          rw [hfull] at nL9
          have hset : (N.set kk (sd.1, Pw))[kk]? = some (sd.1, Pw) := List.getElem?_set_self (by omega)
          obtain ⟨x', hx', y1, y2, y3⟩ := nL9.get hset
          rw [hx3] at hx'
          cases hx'
          refine ⟨_, rfl, _, rfl, _, _, _, _, rfl, rfl, SqL.of hp9, atI_nat (tri_get hx3), ?_⟩
          refine ⟨_, _, _, Pw, rfl, y1, y3, by omega, fun H10 s10 => ?_⟩
          refine ⟨_, rfl, _, rfl, q, _, _, kk, rfl, rfl, s10 _ _ hq9, ixN_of (by rw [List.length_map]; omega), ?_⟩
          have E10 := E9.trans (.of s10)
          have E11 := E10.mut (o := .lst ((S.map V.bl).set kk (.bl (Pw.all Option.isNone)))) (.of q0n) (s10 _ _ hq9)
          refine ⟨_, _, _, _, _, _, rfl, E11, E11.2 tb, (upd_ne npq).trans (s10 _ _ hp9), (nL9.same s10).upd (s10 _ _ hq9) qin, ?_, (upd_ne n5q.symm).trans (s10 _ _ h59)⟩
          rw [upd_same, List.map_set]
      · rintro σ H7 ⟨v4, v5, v6, v7, v8, v9, rfl, E7, T7, hp7, nL7, hq7, h57⟩
        rw [List.length_map, hblen, ← hblen, List.take_length] at nL7
        exact ⟨_, rfl, k p L H7 E7 T7 ⟨hp7, nL7, nF.new, nF.out⟩⟩
end
end Law
end

section
set_option Elab.async false
set_option linter.all false
set_option maxRecDepth 100000
set_option maxHeartbeats 8000000
namespace Law
open PySem PySem.Spec PyProof.Rows L2 LamX QB QM
section
variable {P : Program} {w : World} {K : PySem.W.Frag} {mg : Str → Option Value} {base : Heap}
theorem pruned_needless {tags : List Str} {F : Form} (g : Good tags F) : Pruned tags F (needFold tags F (byLen F)) := Pruned.fold g _ _ (Pruned.start tags F) fun k hk => byLen_lt hk
theorem needless_len {tags : List Str} {F : Form} (g : Good tags F) : (needless tags F).length = F.length := (pruned_needless g).len
theorem needless_std {tags : List Str} {F : Form} (g : Good tags F) {s : Std} (h : s ∈ needless tags F) : ∃ s' ∈ F, s.1 = s'.1 ∧ s.2.length = s'.2.length ∧ ∀ n, some n ∈ s.2 → some n ∈ s'.2 := by
  obtain ⟨k, hk, e⟩ := List.mem_iff_getElem.mp h
  have e' : (needless tags F)[k]? = some s := by rw [List.getElem?_eq_getElem hk, e]
  obtain ⟨h1, h2, h3⟩ := (pruned_needless g).word k s e'
  have hkF : k < F.length := by rw [← needless_len g]; exact hk
  exact ⟨stdOf F k, mem_of (stdOf_get hkF), h1, h2, h3⟩
theorem needless_in {tags : List Str} {F : Form} (g : Good tags F) (ht : tags.length ≤ 100) : WaysIn (needless tags F) := fun s hs => by
  obtain ⟨s', h1, h2, h3, h4⟩ := needless_std g hs
  exact ⟨by rw [h3, g.len s' h1]; exact ht, fun n hn => by rw [needless_len g]; exact g.to s' h1 n (h4 n hn)⟩
theorem alike_len {F : Form} : (alike F).length = F.length := by
  have all : ∀ (f many : Nat) (cs : List Nat), cs.length = F.length → (alikeLoop F f many cs).length = F.length := by
    intro f
    induction f with
    | zero => exact fun _ _ h => h
    | succ f ih =>
      intro many cs h
      unfold alikeLoop
      split
      · exact ih _ _ (part_len h)
      · exact h
  exact all _ _ _ (by rw [QD.numb_len]; exact List.length_map _)
def spLeast (T : List (Addr × Str)) : Sp := fun vs H Q _ => ∃ (a b : Addr) (tags : List Str) (F : Form), vs = [.ref a, .ref b] ∧ WordAt H a tags ∧ FormAt H b F ∧ Good tags F ∧ WordsOk tags F ∧ tags.length ≤ 100 ∧ Tabs T H ∧
  ∀ (p : Addr) (L : List Tri) (H' : Hp), Ext T H H' → Tabs T H' → NewF H H' p L (least tags F) → Q (.ref p) H'
theorem ok_least_form (X : TX K mg) (TB : LamX.TabB base mg X.lam_c X.lam_P) : FnOk P w K mg base CX0 4 X.d_least_form.a X.d_least_form.fd ["tags", "standings"] (spLeast (Tof X)) := by
  have nd := sc_least_form.nd
  refine X.d_least_form.F.ok sc_least_form (fun vs H Q E h => ?_) (fun cdv A outer s H vs Q E hr h => ?_)
  · obtain ⟨a, b, tags, F, rfl, _⟩ := h
    rfl
  · obtain ⟨a, b, tags, F, rfl, hT, hF, g, ok, htl, tb, k⟩ := h
    refine ⟨_, (pss_cons (ps_set (i := 2) nd rfl (Or.inl rfl) (pe_call (ok_without_needless_ways X TB) (hr.mono (by decide)) rfl X.d_without_needless_ways.mg X.d_without_needless_ways.F.kp X.d_without_needless_ways.b .nil pass0 (pa_cons (pv 0) (pa_cons (pv 1) pa_nil)))) (pss_one (ps_ret (pe_call (ok_in_order_met X) (hr.mono (by decide)) rfl X.d_in_order_met.mg X.d_in_order_met.F.kp X.d_in_order_met.b .nil pass0 (pa_cons (pv 2) (pa_cons (pe_call (ok_alike_classes X) (hr.mono (by decide)) rfl X.d_alike_classes.mg X.d_alike_classes.F.kp X.d_alike_classes.b .nil pass0 (pa_cons (pv 2) pa_nil)) pa_nil)))))), ?_⟩
    try dsimp only [Cx.nox, Cx.wish, cxOf]
    have hsm := g.small
    have hpos := g.pos
    refine ⟨_, rfl, _, rfl, a, b, tags, F, rfl, hT, hF, g, ok, htl, tb, fun p L H1 e1 t1 n1 => ?_⟩
    have hlen := needless_len g
    have hin := needless_in g htl
    have hwl : ∀ s ∈ needless tags F, s.1.length ≤ 10000 := fun s hs => by
      obtain ⟨s', h1, h2, _⟩ := needless_std g hs
      rw [h2]
      have := ok.len s' h1
      omega
    refine ⟨_, rfl, _, rfl, p, needless tags F, rfl, n1.form, by omega, by omega, hin, hwl, fun c H2 s2 nc hc => ?_⟩
    refine ⟨p, c, needless tags F, alike (needless tags F), H, L, rfl, n1.same s2, fun q hq => (e1.trans (.of s2)).free hq, hc, alike_len, by omega, by omega, hin, fun q L2 H3 s3 n3 => ?_⟩
    have e3 := (e1.trans (.of s2)).trans (.of s3)
    exact k q L2 H3 e3 (e3.2 tb) n3
end
end Law
end

section
set_option Elab.async false
set_option linter.all false
set_option maxRecDepth 100000
set_option maxHeartbeats 8000000
namespace Law
open PySem PySem.Spec PyProof.Rows L2 LamX QB QM
theorem kit_int_int {K : PySem.W.Frag} : PySem.W.kitOne K (.type "int") (.type "int") = some true := kit_ty (by decide +kernel)
theorem kit_int_bool {K : PySem.W.Frag} : PySem.W.kitOne K (.type "int") (.type "bool") = some false := kit_ty (by decide +kernel)
theorem kit_list_list {K : PySem.W.Frag} : PySem.W.kitOne K (.type "list") (.type "list") = some true := kit_ty (by decide +kernel)
theorem kit_str_str {K : PySem.W.Frag} : PySem.W.kitOne K (.type "str") (.type "str") = some true := kit_ty (by decide +kernel)
theorem kit_tuple_tuple {K : PySem.W.Frag} : PySem.W.kitOne K (.type "tuple") (.type "tuple") = some true := kit_ty (by decide +kernel)
section
variable {P : Program} {w : World} {K : PySem.W.Frag} {mg : Str → Option Value} {base : Heap}
/-- is_number of a whole number -/
def spIsNumber : Sp := fun vs H Q _ => ∃ (n lo hi : Int), vs = [.int n, .int lo, .int hi] ∧ Q (.bl (decide (lo ≤ n ∧ n ≤ hi))) H
theorem ok_is_number (X : TX K mg) : FnOk P w K mg base CX0 1 X.d_is_number.a X.d_is_number.fd ["x", "least", "most"] spIsNumber := by
  have nd := sc_is_number.nd
  refine X.d_is_number.F.ok sc_is_number (fun vs H Q E h => ?_) (fun cdv A outer s H vs Q E hr h => ?_)
  · obtain ⟨n, lo, hi, rfl, _⟩ := h
    rfl
  · obtain ⟨n, lo, hi, rfl, k⟩ := h
    refine ⟨_, (pss_one (ps_ret (pe_and (pe_callB (QB.call_isiK K) (by rfl) X.n_isinstance QB.bo_isinstance (pa_cons (pv 0) (pa_cons (pe_bltn (v := .ty "int") (by rfl) X.n_int QB.bo_int rfl) pa_nil))) (pe_and (pe_not (pe_callB (QB.call_isiK K) (by rfl) X.n_isinstance QB.bo_isinstance (pa_cons (pv 0) (pa_cons (pe_bltn (v := .ty "bool") (by rfl) X.n_bool QB.bo_bool rfl) pa_nil)))) (pe_one (pe_chain op_le op_le (pv 1) (pv 0) (pv 2))))))), ?_⟩
    try dsimp only [Cx.nox, Cx.wish, cxOf]
    refine ⟨_, rfl, _, _, _, _, true, rfl, .ty "int", .base (.int n), kit_int_int, true, rfl, ?_⟩
    refine iteT ?_
    refine ⟨_, rfl, _, _, _, _, false, rfl, .ty "bool", .base (.int n), kit_int_bool, false, rfl, true, rfl, ?_⟩
    refine iteT ?_
    refine ⟨_, rfl, _, rfl, _, _, rfl, rfl, _, rfl, ?_⟩
    by_cases h1 : lo ≤ n
    · rw [if_pos (decide_eq_true h1)]
      refine ⟨_, rfl, _, _, rfl, rfl, ?_⟩
      have e : decide (lo ≤ n ∧ n ≤ hi) = decide (n ≤ hi) := by simp [h1]
      rw [e] at k
      exact k
    · rw [if_neg (by simpa using h1)]
      have e : decide (lo ≤ n ∧ n ≤ hi) = false := by simp [h1]
      rw [e] at k
      exact k
/-- is_list of a list -/
def spIsList : Sp := fun vs H Q _ => ∃ (a : Addr) (xs : List V) (lo hi : Int), vs = [.ref a, .int lo, .int hi] ∧ H a = some (.lst xs) ∧ Q (.bl (decide (lo ≤ (xs.length : Int) ∧ (xs.length : Int) ≤ hi))) H
theorem ok_is_list (X : TX K mg) : FnOk P w K mg base CX0 1 X.d_is_list.a X.d_is_list.fd ["x", "least", "most"] spIsList := by
  have nd := sc_is_list.nd
  refine X.d_is_list.F.ok sc_is_list (fun vs H Q E h => ?_) (fun cdv A outer s H vs Q E hr h => ?_)
  · obtain ⟨a, xs, lo, hi, rfl, _⟩ := h
    rfl
  · obtain ⟨a, xs, lo, hi, rfl, ha, k⟩ := h
    refine ⟨_, (pss_one (ps_ret (pe_and (pe_callB (QB.call_isiK K) (by rfl) X.n_isinstance QB.bo_isinstance (pa_cons (pv 0) (pa_cons (pe_bltn (v := .ty "list") (by rfl) X.n_list QB.bo_list rfl) pa_nil))) (pe_one (pe_chain op_le op_le (pv 1) (pe_callB (QB.call_lenK K) (by rfl) X.n_len PySem.boot_len (pa_cons (pv 0) pa_nil)) (pv 2)))))), ?_⟩
    try dsimp only [Cx.nox, Cx.wish, cxOf]
    refine ⟨_, rfl, _, _, _, _, true, rfl, .ty "list", .base (.lst ha), kit_list_list, true, rfl, ?_⟩
    refine iteT ?_
    refine ⟨_, rfl, _, rfl, _, _, rfl, .inl (SqL.of ha), _, _, rfl, rfl, _, rfl, ?_⟩
    by_cases h1 : lo ≤ (xs.length : Int)
    · rw [if_pos (decide_eq_true h1)]
      refine ⟨_, rfl, _, _, rfl, rfl, ?_⟩
      have e : decide (lo ≤ (xs.length : Int) ∧ (xs.length : Int) ≤ hi) = decide ((xs.length : Int) ≤ hi) := by simp [h1]
      rw [e] at k
      exact k
    · rw [if_neg (by simpa using h1)]
      have e : decide (lo ≤ (xs.length : Int) ∧ (xs.length : Int) ≤ hi) = false := by simp [h1]
      rw [e] at k
      exact k
def letters : Str := "abcdefghijklmnopqrstuvwxyz"
/-- a name of a tag -/
structure NameOk (t : Str) : Prop where
  pos : 1 ≤ t.length
  len : t.length ≤ 8
  all : ∀ c ∈ t.cps.toList, c ∈ letters.cps.toList
theorem NameOk.txt {t : Str} (h : NameOk t) : PyData.strOk t = true := by
  unfold PyData.strOk
  rw [← Array.all_toList, List.all_eq_true]
  intro c hc
  have := h.all c hc
  have small : ∀ c ∈ letters.cps.toList, decide (c < 0x110000) = true := by decide +kernel
  exact small c this
def spIsName : Sp := fun vs H Q _ => ∃ t : Str, vs = [.str t] ∧ NameOk t ∧ ∀ H', Same H H' → Q (.bl true) H'
theorem ok_is_name (X : TX K mg) : FnOk P w K mg base CX0 1 X.d_is_name.a X.d_is_name.fd ["x"] spIsName := by
  have nd := sc_is_name.nd
  refine X.d_is_name.F.ok sc_is_name (fun vs H Q E h => ?_) (fun cdv A outer s H vs Q E hr h => ?_)
  · obtain ⟨t, rfl, _⟩ := h
    rfl
  · obtain ⟨t, rfl, ho, k⟩ := h
    refine ⟨_, (pss_cons (ps_if (PW.pt (pw_or (pt_not (pt_val (pe_callB (QB.call_isiK K) (by rfl) X.n_isinstance QB.bo_isinstance (pa_cons (pv 0) (pa_cons (pe_bltn (v := .ty "str") (by rfl) X.n_str QB.bo_str rfl) pa_nil))))) (pw_or1 (pt_not (pt_chain op_le op_le pe_int (pe_callB call_len_str (by rfl) X.n_len PySem.boot_len (pa_cons (pv 0) pa_nil)) (pe_gc rfl X.c_MOST_LETTERS)))))) (pss_one (ps_ret pe_bl)) pss_nil) (pss_one (ps_ret (pe_callB (QB.cr_allK K rfl) (by rfl) X.n_all QB.bo_all (pa_cons (pe_lc (own := [("letter", 1)]) (g := gName 1) (tt := tYes) rfl nd (pi_str (pv 0)) (blkOk_by (N := ["x", "letter"]) (sc := defScope s_is_name) (by decide +kernel)) (fun _ _ _ _ _ => pg_name (i := 1) nd rfl (Or.inl rfl)) (fun _ _ _ _ _ => pts_nil) (fun _ _ _ _ _ => (pe_cmpR op_in_sign (pv 1) (pe_gc rfl X.c_LETTERS) rfl))) pa_nil))))), ?_⟩
    try dsimp only [Cx.nox, Cx.wish, cxOf]
    have h1 := ho.pos
    have h8 := ho.len
    refine ⟨_, rfl, _, _, _, _, true, rfl, .ty "str", .base (.str t), kit_str_str, true, rfl, ?_⟩
    refine iteF ?_
    refine ⟨_, rfl, t, rfl, sz_le (by omega), _, _, rfl, rfl, _, rfl, ?_⟩
    rw [if_pos (decide_eq_true (by omega))]
    refine ⟨_, _, rfl, rfl, _, rfl, ?_⟩
    rw [decide_eq_true (by omega : (t.length : Int) ≤ 8)]
    refine iteF ?_
    refine ⟨_, rfl, t, rfl, fun D hD => ?_⟩
    refine lc_map walk_str hD (by have e : t.cps.size = t.length := rfl; omega) (fun _ _ => True.intro) (fun i => .bl true) ?_ ?_
    · rintro i x H1 H2 kk hi s1 ⟨rfl, c, hc, rfl⟩ hk
      refine ⟨rfl, _, rfl, c, letters, rfl, rfl, ?_⟩
      rw [decide_eq_true (ho.all c (by
        have := List.mem_of_getElem? (show t.cps.toList[i]? = some c by simpa using hc)
        exact this))]
      exact hk _ (Same.refl _)
    · intro H1 s1 e
      have e2 : (List.range t.cps.size).map (fun _ => V.bl true) = (List.replicate t.cps.size true).map V.bl := by
        rw [List.map_replicate, List.map_const', List.length_range]
      refine ⟨_, List.replicate t.cps.size true, rfl, SqL.of (by rw [← e2]; exact e), ?_⟩
      have e3 : (List.replicate t.cps.size true).all id = true := by
        rw [List.all_eq_true]
        intro b hb
        rw [List.eq_of_mem_replicate hb]
        rfl
      rw [e3]
      exact k H1 s1

def spIsTag : Sp := fun vs H Q _ => ∃ (a : Addr) (tags : List Str) (t : Str), vs = [.ref a, .str t] ∧ WordAt H a tags ∧ Q (.bl (decide (t ∈ tags))) H
theorem ok_is_tag (X : TX K mg) : FnOk P w K mg base CX0 1 X.d_is_tag.a X.d_is_tag.fd ["tags", "x"] spIsTag := by
  have nd := sc_is_tag.nd
  refine X.d_is_tag.F.ok sc_is_tag (fun vs H Q E h => ?_) (fun cdv A outer s H vs Q E hr h => ?_)
  · obtain ⟨a, tags, t, rfl, _⟩ := h
    rfl
  · obtain ⟨a, tags, t, rfl, ha, k⟩ := h
    refine ⟨_, (pss_one (ps_ret (pe_and (pe_callB (QB.call_isiK K) (by rfl) X.n_isinstance QB.bo_isinstance (pa_cons (pv 1) (pa_cons (pe_bltn (v := .ty "str") (by rfl) X.n_str QB.bo_str rfl) pa_nil))) (pe_one (pe_cmpR (QB.op_inK K) (pv 1) (pv 0) rfl))))), ?_⟩
    try dsimp only [Cx.nox, Cx.wish, cxOf]
    refine ⟨_, rfl, _, _, _, _, true, rfl, .ty "str", .base (.str t), kit_str_str, true, rfl, ?_⟩
    refine iteT ?_
    refine ⟨_, rfl, _, rfl, a, vS tags, rfl, .inl (SqL.of ha), rfl, vS_flat, ?_⟩
    show Q (.bl (if false = true then !inV (.str t) (vS tags) else inV (.str t) (vS tags))) H
    rw [if_neg Bool.false_ne_true, inV_word]
    exact k
def spIsSubject : Sp := fun vs H Q _ => ∃ (a b : Addr) (tags wd : List Str), vs = [.ref a, .ref b] ∧ WordAt H a tags ∧ WordAt H b wd ∧ wd.length ≤ 10000 ∧ ∀ H', Same H H' → Q (.bl (wd.all fun t => decide (t ∈ tags))) H'
theorem ok_is_subject (X : TX K mg) : FnOk P w K mg base CX0 2 X.d_is_subject.a X.d_is_subject.fd ["tags", "x"] spIsSubject := by
  have nd := sc_is_subject.nd
  refine X.d_is_subject.F.ok sc_is_subject (fun vs H Q E h => ?_) (fun cdv A outer s H vs Q E hr h => ?_)
  · obtain ⟨a, b, tags, wd, rfl, _⟩ := h
    rfl
  · obtain ⟨a, b, tags, wd, rfl, ha, hb, hz, k⟩ := h
    refine ⟨_, (pss_one (ps_ret (pe_and (pe_callB (QB.call_isiK K) (by rfl) X.n_isinstance QB.bo_isinstance (pa_cons (pv 1) (pa_cons (pe_bltn (v := .ty "list") (by rfl) X.n_list QB.bo_list rfl) pa_nil))) (pe_one (pe_callB (QB.cr_allK K rfl) (by rfl) X.n_all QB.bo_all (pa_cons (pe_lc (own := [("tag", 2)]) (g := gName 2) (tt := tYes) rfl nd (QB.pi_listK K (pv 1)) (blkOk_by (N := ["tags", "x", "tag"]) (sc := defScope s_is_subject) (by decide +kernel)) (fun _ _ _ _ _ => pg_name (i := 2) nd rfl (Or.inl rfl)) (fun _ _ _ _ _ => pts_nil) (fun _ _ _ _ _ => (pe_call (ok_is_tag X) (hr.mono (by decide)) rfl X.d_is_tag.mg X.d_is_tag.F.kp X.d_is_tag.b .nil pass0 (pa_cons (pv 0) (pa_cons (pv 2) pa_nil))))) pa_nil)))))), ?_⟩
    try dsimp only [Cx.nox, Cx.wish, cxOf]
    refine ⟨_, rfl, _, _, _, _, true, rfl, .ty "list", .base (.lst hb), kit_list_list, true, rfl, ?_⟩
    refine iteT ?_
    refine ⟨_, rfl, _, rfl, ⟨_, SqL.of hb⟩, fun D hD => ?_⟩
    refine lc_map (walk_listW (K := K) (a := b) (w := wd)) hD (by omega) (fun H1 s1 => Same.word s1 hb) (fun i => .bl (decide ((wd[i]?).getD "" ∈ tags))) ?_ ?_
    · rintro i x H1 H2 kk hi s1 ⟨y, hy, rfl, rfl⟩ hk
      refine ⟨rfl, _, rfl, _, rfl, a, tags, y, rfl, Same.word s1 ha, ?_⟩
      have e := hk _ (Same.refl H2)
      rw [hy] at e
      exact e
    · intro H1 s1 e
      rw [range_map_get _ wd (fun t => .bl (decide (t ∈ tags))) (fun i x hx => by rw [hx]; rfl)] at e
      refine ⟨_, wd.map fun t => decide (t ∈ tags), rfl, SqL.of (by rw [e, List.map_map]; rfl), ?_⟩
      have e2 := k H1 s1
      rw [List.all_map]
      exact e2
/-- standings that may be passed -/
structure StdOk (tags : List Str) (n : Nat) (s : Std) : Prop where
  len : s.1.length ≤ 8
  sub : ∀ t ∈ s.1, t ∈ tags
  ways : s.2.length = tags.length
  to : ∀ m, some m ∈ s.2 → m < n
structure FormOk (tags : List Str) (F : Form) : Prop where
  pos : 1 ≤ F.length
  len : F.length ≤ 30
  all : ∀ s ∈ F, StdOk tags F.length s
structure TagsOk (tags : List Str) : Prop where
  pos : 1 ≤ tags.length
  len : tags.length ≤ 6
  nd : tags.Nodup
  names : ∀ t ∈ tags, NameOk t
theorem FormOk.good {tags : List Str} {F : Form} (f : FormOk tags F) : Good tags F := ⟨f.pos, fun s hs => (f.all s hs).ways, fun s hs n hn => (f.all s hs).to n hn, by have := f.len; omega⟩
theorem FormOk.words {tags : List Str} {F : Form} (f : FormOk tags F) (t : TagsOk tags) : WordsOk tags F := ⟨fun x hx => (t.names x hx).txt, fun s hs => (f.all s hs).sub, fun s hs => by have := (f.all s hs).len; omega⟩
def spIsStanding : Sp := fun vs H Q _ => ∃ (a x p1 p2 : Addr) (tags : List Str) (n : Nat) (s : Std), vs = [.ref a, .int (n : Int), .ref x] ∧ WordAt H a tags ∧ H x = some (.tup [.ref p1, .ref p2]) ∧ WordAt H p1 s.1 ∧ WaysAt H p2 s.2 ∧ StdOk tags n s ∧ tags.length ≤ 100 ∧ ∀ H', Same H H' → Q (.bl true) H'
theorem ok_is_standing (X : TX K mg) : FnOk P w K mg base CX0 3 X.d_is_standing.a X.d_is_standing.fd ["tags", "many", "x"] spIsStanding := by
  have nd := sc_is_standing.nd
  refine X.d_is_standing.F.ok sc_is_standing (fun vs H Q E h => ?_) (fun cdv A outer s H vs Q E hr h => ?_)
  · obtain ⟨a, x, p1, p2, tags, n, s, rfl, _⟩ := h
    rfl
  · obtain ⟨a, x, p1, p2, tags, n, s, rfl, ha, hx, h1, h2, ok, htl, k⟩ := h
    refine ⟨_, (pss_cons (ps_if (PW.pt (pw_or (pt_not (pt_val (pe_callB (QB.call_isiK K) (by rfl) X.n_isinstance QB.bo_isinstance (pa_cons (pv 2) (pa_cons (pe_bltn (v := .ty "tuple") (by rfl) X.n_tuple QB.bo_tuple rfl) pa_nil))))) (pw_or1 (pt_cmpR op_ne (pe_callB (QB.call_lenK K) (by rfl) X.n_len PySem.boot_len (pa_cons (pv 2) pa_nil)) pe_int (nomark _))))) (pss_one (ps_ret pe_bl)) pss_nil) (pss_cons (ps_asg (pv 2) (pg_tup (by rfl) (pgs_cons (pg_name (i := 3) nd rfl (Or.inl rfl)) (pgs_cons (pg_name (i := 4) nd rfl (Or.inl rfl)) (pgs_nil))))) (pss_cons (ps_if (PW.pt (pw_or (pt_not (pt_val (pe_call (ok_is_list X) (hr.mono (by decide)) rfl X.d_is_list.mg X.d_is_list.F.kp X.d_is_list.b .nil pass0 (pa_cons (pv 3) (pa_cons pe_int (pa_cons (pe_gc rfl X.c_LONGEST_WORD) pa_nil)))))) (pw_or1 (pt_not (pt_val (pe_call (ok_is_subject X) (hr.mono (by decide)) rfl X.d_is_subject.mg X.d_is_subject.F.kp X.d_is_subject.b .nil pass0 (pa_cons (pv 0) (pa_cons (pv 3) pa_nil)))))))) (pss_one (ps_ret pe_bl)) pss_nil) (pss_cons (ps_if (pt_not (pt_val (pe_call (ok_is_list X) (hr.mono (by decide)) rfl X.d_is_list.mg X.d_is_list.F.kp X.d_is_list.b .nil pass0 (pa_cons (pv 4) (pa_cons (pe_callB (QB.call_lenK K) (by rfl) X.n_len PySem.boot_len (pa_cons (pv 0) pa_nil)) (pa_cons (pe_callB (QB.call_lenK K) (by rfl) X.n_len PySem.boot_len (pa_cons (pv 0) pa_nil)) pa_nil)))))) (pss_one (ps_ret pe_bl)) pss_nil) (pss_one (ps_ret (pe_callB (QB.cr_allK K rfl) (by rfl) X.n_all QB.bo_all (pa_cons (pe_lc (own := [("way", 5)]) (g := gName 5) (tt := tYes) rfl nd (QB.pi_listK K (pv 4)) (blkOk_by (N := ["tags", "many", "x", "word", "ways", "way"]) (sc := defScope s_is_standing) (by decide +kernel)) (fun _ _ _ _ _ => pg_name (i := 5) nd rfl (Or.inl rfl)) (fun _ _ _ _ _ => pts_nil) (fun _ _ _ _ _ => (pe_or (pe_cmpR op_isN (pv 5) pe_non (nomark _)) (pe_one (pe_call (ok_is_number X) (hr.mono (by decide)) rfl X.d_is_number.mg X.d_is_number.F.kp X.d_is_number.b .nil pass0 (pa_cons (pv 5) (pa_cons pe_int (pa_cons (pe_op op_sub (pv 1) pe_int) pa_nil)))))))) pa_nil)))))))), ?_⟩
    try dsimp only [Cx.nox, Cx.wish, cxOf]
    have o1 := ok.len
    have o2 := ok.ways
    refine ⟨_, rfl, _, _, _, _, true, rfl, .ty "tuple", .base (.tup hx), kit_tuple_tuple, true, rfl, ?_⟩
    refine iteF ?_
    refine ⟨_, rfl, _, _, rfl, .inr (SqT.of hx), rfl, _, rfl, ?_⟩
    refine iteF ?_
    refine ⟨_, rfl, x, _, rfl, SqT.of hx, rfl, _, _, rfl, _, _, rfl, rfl, ?_⟩
    refine ⟨_, rfl, p1, _, _, _, rfl, h1, _, rfl, ?_⟩
    rw [decide_eq_true (by rw [vS_len]; omega)]
    refine iteF ?_
    refine ⟨_, rfl, _, rfl, a, p1, tags, s.1, rfl, ha, h1, by omega, fun H1 s1 => ?_⟩
    rw [show (s.1.all fun t => decide (t ∈ tags)) = true from List.all_eq_true.mpr fun t ht => decide_eq_true (ok.sub t ht)]
    refine ⟨_, rfl, ?_⟩
    refine iteF ?_
    refine ⟨_, rfl, _, rfl, _, _, rfl, .inl (SqL.of (Same.word s1 ha)), _, rfl, _, _, rfl, .inl (SqL.of (Same.word s1 ha)), p2, _, _, _, rfl, Same.ways s1 h2, _, rfl, ?_⟩
    rw [decide_eq_true (by rw [vS_len, vWs_len]; omega)]
    refine iteF ?_
    refine ⟨_, rfl, _, rfl, ⟨_, SqL.of (Same.ways s1 h2)⟩, fun D hD => ?_⟩
    refine lc_map (walk_listWs (K := K) (a := p2) (ws := s.2)) hD (by omega) (fun H2 s2 => Same.ways (s1.trans s2) h2) (fun i => .bl true) ?_ ?_
    · rintro i v H2 H3 kk hi s2 ⟨y, hy, rfl, rfl⟩ hk
      have e := hk _ (Same.refl H3)
      refine ⟨rfl, _, rfl, rfl, _, rfl, ?_⟩
      rw [vW_is]
      cases y with
      | none => exact iteT e
      | some m =>
        have hm := ok.to m (List.mem_of_getElem? hy)
        refine iteF ?_
        refine ⟨_, rfl, _, rfl, _, _, rfl, rfl, _, _, _, rfl, ?_⟩
        rw [decide_eq_true (by omega)]
        exact e
    · intro H2 s2 e
      have e2 : (List.range s.2.length).map (fun _ => V.bl true) = (List.replicate s.2.length true).map V.bl := by
        rw [List.map_replicate, List.map_const', List.length_range]
      refine ⟨_, List.replicate s.2.length true, rfl, SqL.of (by rw [← e2]; exact e), ?_⟩
      have e3 : (List.replicate s.2.length true).all id = true := by
        rw [List.all_eq_true]
        intro b hb
        rw [List.eq_of_mem_replicate hb]
        rfl
      rw [e3]
      exact k H2 (s1.trans s2)
def spCheckTags : Sp := fun vs H Q _ => ∃ (a : Addr) (tags : List Str), vs = [.ref a] ∧ WordAt H a tags ∧ TagsOk tags ∧ ∀ H', Same H H' → Q .non H'
theorem ok_check_tags (X : TX K mg) : FnOk P w K mg base CX0 3 X.d_check_tags.a X.d_check_tags.fd ["tags"] spCheckTags := by
  have nd := sc_check_tags.nd
  refine X.d_check_tags.F.ok sc_check_tags (fun vs H Q E h => ?_) (fun cdv A outer s H vs Q E hr h => ?_)
  · obtain ⟨a, tags, rfl, _⟩ := h
    rfl
  · obtain ⟨a, tags, rfl, ha, ok, k⟩ := h
    refine ⟨_, (pss_cons (ps_if (pt_not (pt_val (pe_call (ok_is_list X) (hr.mono (by decide)) rfl X.d_is_list.mg X.d_is_list.F.kp X.d_is_list.b .nil pass0 (pa_cons (pv 0) (pa_cons pe_int (pa_cons (pe_gc rfl X.c_MOST_TAGS) pa_nil)))))) (pss_one ps_never) pss_nil) (pss_one (ps_for PassesOwn.never rfl (QB.pi_enumK K (by rfl) X.n_enumerate (pa_cons (pv 0) pa_nil)) (pg_tup (by rfl) (pgs_cons (pg_name (i := 1) nd rfl (Or.inl rfl)) (pgs_cons (pg_name (i := 2) nd rfl (Or.inl rfl)) (pgs_nil)))) (pss_one (ps_if (PW.pt (pw_or (pt_not (pt_val (pe_call (ok_is_name X) (hr.mono (by decide)) rfl X.d_is_name.mg X.d_is_name.F.kp X.d_is_name.b .nil pass0 (pa_cons (pv 2) pa_nil)))) (pw_or1 (pt_cmpR (QB.op_inK K) (pv 2) (pe_slice (QB.sl_listK K) (pv 0) po_none (po_some (pv 1))) rfl)))) (pss_one ps_never) pss_nil))))), ?_⟩
    try dsimp only [Cx.nox, Cx.wish, cxOf]
    have o1 := ok.pos
    have o2 := ok.len
    refine ⟨_, rfl, a, _, _, _, rfl, ha, _, rfl, ?_⟩
    rw [decide_eq_true (by rw [vS_len]; omega)]
    refine iteF ?_
    refine ⟨_, rfl, _, _, rfl, SqL.of ha, ?_⟩
    refine for_it (walk_enumW (K := K) (a := a) (w := tags)) (fun i σ H' => ∃ v1 v2, σ = [some (.ref a), v1, v2] ∧ Same H H') ⟨none, none, rfl, Same.refl H⟩ (fun i σ H' _ ⟨_, _, _, s1⟩ => Same.word s1 ha) ?_ ?_
    · rintro i v σ H1 H2 hi ⟨v1, v2, rfl, s1⟩ ⟨tp, t, ht, ntp, rfl, rfl⟩
      have s2 := Same.new s1 (o := .tup [.int (i : Int), .str t]) ntp
      refine ⟨tp, _, rfl, SqT.of upd_same, rfl, _, _, rfl, _, _, rfl, rfl, ?_⟩
      refine ⟨_, rfl, t, rfl, ok.names t (List.mem_of_getElem? ht), fun H3 s3 => ⟨_, rfl, ?_⟩⟩
      have s4 := s2.trans s3
      refine iteF ?_
      refine ⟨_, rfl, _, rfl, _, rfl, _, rfl, a, _, rfl, SqL.of (Same.word s4 ha), fun q hq => ?_⟩
      rw [cut_take, vS_take]
      refine ⟨q, _, rfl, .inl (SqL.of upd_same), rfl, vS_flat, _, rfl, ?_⟩
      rw [if_neg Bool.false_ne_true, inV_word]
      have hnot : t ∉ tags.take i := fun hm => by
        obtain ⟨j, hj, e⟩ := List.mem_iff_getElem.mp hm
        rw [List.length_take] at hj
        rw [List.getElem_take] at e
        have e2 : tags[j]? = some t := by rw [List.getElem?_eq_getElem (by omega), e]
        have := nd_ix ok.nd e2 ht
        omega
      rw [decide_eq_false hnot]
      exact iteF ⟨_, _, rfl, Same.new s4 hq⟩
    · rintro σ H1 ⟨v1, v2, rfl, s1⟩
      exact k H1 s1
def spCheckWord : Sp := fun vs H Q _ => ∃ (a b : Addr) (tags wd : List Str) (most : Int), vs = [.ref a, .ref b, .int most] ∧ WordAt H a tags ∧ WordAt H b wd ∧ (wd.length : Int) ≤ most ∧ (∀ t ∈ wd, t ∈ tags) ∧ ∀ H', Same H H' → Q .non H'
theorem ok_check_word (X : TX K mg) : FnOk P w K mg base CX0 3 X.d_check_word.a X.d_check_word.fd ["tags", "word", "most"] spCheckWord := by
  have nd := sc_check_word.nd
  refine X.d_check_word.F.ok sc_check_word (fun vs H Q E h => ?_) (fun cdv A outer s H vs Q E hr h => ?_)
  · obtain ⟨a, b, tags, wd, most, rfl, _⟩ := h
    rfl
  · obtain ⟨a, b, tags, wd, most, rfl, ha, hb, hz, hin, k⟩ := h
    refine ⟨_, (pss_cons (ps_if (pt_not (pt_val (pe_call (ok_is_list X) (hr.mono (by decide)) rfl X.d_is_list.mg X.d_is_list.F.kp X.d_is_list.b .nil pass0 (pa_cons (pv 1) (pa_cons pe_int (pa_cons (pv 2) pa_nil)))))) (pss_one ps_never) pss_nil) (pss_one (ps_for PassesOwn.never rfl (QB.pi_enumK K (by rfl) X.n_enumerate (pa_cons (pv 1) pa_nil)) (pg_tup (by rfl) (pgs_cons (pg_name (i := 3) nd rfl (Or.inl rfl)) (pgs_cons (pg_name (i := 4) nd rfl (Or.inl rfl)) (pgs_nil)))) (pss_one (ps_if (pt_not (pt_val (pe_call (ok_is_tag X) (hr.mono (by decide)) rfl X.d_is_tag.mg X.d_is_tag.F.kp X.d_is_tag.b .nil pass0 (pa_cons (pv 0) (pa_cons (pv 4) pa_nil))))) (pss_one ps_never) pss_nil))))), ?_⟩
    try dsimp only [Cx.nox, Cx.wish, cxOf]
    refine ⟨_, rfl, _, rfl, b, _, _, _, rfl, hb, _, rfl, ?_⟩
    rw [decide_eq_true (by rw [vS_len]; omega)]
    refine iteF ?_
    refine ⟨_, rfl, _, _, rfl, SqL.of hb, ?_⟩
    refine for_it (walk_enumW (K := K) (a := b) (w := wd)) (fun i σ H' => ∃ v3 v4, σ = [some (.ref a), some (.ref b), some (.int most), v3, v4] ∧ Same H H') ⟨none, none, rfl, Same.refl H⟩ (fun i σ H' _ ⟨_, _, _, s1⟩ => Same.word s1 hb) ?_ ?_
    · rintro i v σ H1 H2 hi ⟨v1, v2, rfl, s1⟩ ⟨tp, t, ht, ntp, rfl, rfl⟩
      have s2 := Same.new s1 (o := .tup [.int (i : Int), .str t]) ntp
      refine ⟨tp, _, rfl, SqT.of upd_same, rfl, _, _, rfl, _, _, rfl, rfl, ?_⟩
      refine ⟨_, rfl, _, rfl, a, tags, t, rfl, Same.word s2 ha, _, rfl, ?_⟩
      rw [decide_eq_true (hin t (List.mem_of_getElem? ht))]
      exact iteF ⟨_, _, rfl, s2⟩
    · rintro σ H1 ⟨v1, v2, rfl, s1⟩
      exact k H1 s1
def spCheckStandings : Sp := fun vs H Q _ => ∃ (a b : Addr) (tags : List Str) (F : Form), vs = [.ref a, .ref b] ∧ WordAt H a tags ∧ FormAt H b F ∧ FormOk tags F ∧ tags.length ≤ 100 ∧ ∀ H', Same H H' → Q .non H'
theorem ok_check_standings (X : TX K mg) : FnOk P w K mg base CX0 4 X.d_check_standings.a X.d_check_standings.fd ["tags", "standings"] spCheckStandings := by
  have nd := sc_check_standings.nd
  refine X.d_check_standings.F.ok sc_check_standings (fun vs H Q E h => ?_) (fun cdv A outer s H vs Q E hr h => ?_)
  · obtain ⟨a, b, tags, F, rfl, _⟩ := h
    rfl
  · obtain ⟨a, b, tags, F, rfl, ha, hF, ok, htl, k⟩ := h
    refine ⟨_, (pss_cons (ps_if (pt_not (pt_val (pe_call (ok_is_list X) (hr.mono (by decide)) rfl X.d_is_list.mg X.d_is_list.F.kp X.d_is_list.b .nil pass0 (pa_cons (pv 1) (pa_cons pe_int (pa_cons (pe_gc rfl X.c_MOST_STANDINGS) pa_nil)))))) (pss_one ps_never) pss_nil) (pss_one (ps_for PassesOwn.never rfl (QB.pi_enumK K (by rfl) X.n_enumerate (pa_cons (pv 1) pa_nil)) (pg_tup (by rfl) (pgs_cons (pg_name (i := 2) nd rfl (Or.inl rfl)) (pgs_cons (pg_name (i := 3) nd rfl (Or.inl rfl)) (pgs_nil)))) (pss_one (ps_if (pt_not (pt_val (pe_call (ok_is_standing X) (hr.mono (by decide)) rfl X.d_is_standing.mg X.d_is_standing.F.kp X.d_is_standing.b .nil pass0 (pa_cons (pv 0) (pa_cons (pe_callB (QB.call_lenK K) (by rfl) X.n_len PySem.boot_len (pa_cons (pv 1) pa_nil)) (pa_cons (pv 3) pa_nil)))))) (pss_one ps_never) pss_nil))))), ?_⟩
    try dsimp only [Cx.nox, Cx.wish, cxOf]
    have o1 := ok.pos
    have o2 := ok.len
    obtain ⟨ts, hts, hpr⟩ := hF
    have htsl := Paired.length hpr
    refine ⟨_, rfl, b, _, _, _, rfl, hts, _, rfl, ?_⟩
    rw [decide_eq_true (by rw [List.length_map]; omega)]
    refine iteF ?_
    refine ⟨_, rfl, _, _, rfl, SqL.of hts, ?_⟩
    refine for_it (walk_enum (K := K) (a := b) (xs := ts.map V.ref)) (fun i σ H' => ∃ v3 v4, σ = [some (.ref a), some (.ref b), v3, v4] ∧ Same H H') ⟨none, none, rfl, Same.refl H⟩ (fun i σ H' _ ⟨_, _, _, s1⟩ => SqL.of (s1 _ _ hts)) ?_ ?_
    · rintro i v σ H1 H2 hi ⟨v1, v2, rfl, s1⟩ ⟨tp, x1, x2, rfl, ntp, rfl, e1, e2⟩
      cases e1
      rw [List.length_map] at hi
      have hti : ts[i]? = some ts[i] := List.getElem?_eq_getElem hi
      have e2 : (ts.map V.ref)[i]? = some x2 := e2
      rw [List.getElem?_map, hti] at e2
      cases e2
      obtain ⟨s, hs, p1, p2, f1, f2, f3⟩ := paired_get' hpr hti
      have s2 := Same.new s1 (o := .tup [.int (i : Int), .ref ts[i]]) ntp
      refine ⟨tp, _, rfl, SqT.of upd_same, rfl, _, _, rfl, _, _, rfl, rfl, ?_⟩
      refine ⟨_, rfl, _, rfl, _, _, rfl, .inl (SqL.of (s2 _ _ hts)), _, rfl, ?_⟩
      refine ⟨a, ts[i], p1, p2, tags, F.length, s, by rw [List.length_map, htsl]; rfl, Same.word s2 ha, s2 _ _ f1, Same.word s2 f2, Same.ways s2 f3, ok.all s (mem_of hs), htl, fun H3 s3 => ⟨_, rfl, ?_⟩⟩
      exact iteF ⟨_, _, rfl, s2.trans s3⟩
    · rintro σ H1 ⟨v1, v2, rfl, s1⟩
      exact k H1 s1
end
end Law
end

section
set_option Elab.async false
set_option linter.all false
set_option maxRecDepth 100000
set_option maxHeartbeats 4000000
namespace Law
open PySem PySem.Spec PyProof.Rows L2 LamX QB QM
section
variable {P : Program} {w : World} {K : PySem.W.Frag} {mg : Str → Option Value} {base : Heap}

theorem wordIns {H : Hp} {x p C dx : Addr} {fs : List (Str × V)} {o : HO} {t : Word} (h : WordAt H p t) (e : H x = some (.ins C dx fs)) : WordAt (upd H x o) p t := Eq.trans (upd_ne (ne_of h e (fun z => nomatch z))) h
theorem formIns {H : Hp} {x p C dx : Addr} {fs : List (Str × V)} {o : HO} {F : Form} (h : FormAt H p F) (e : H x = some (.ins C dx fs)) : FormAt (upd H x o) p F := by
  obtain ⟨ts, h1, h2⟩ := h
  refine ⟨ts, Eq.trans (upd_ne (ne_of h1 e (fun z => nomatch z))) h1, L2.Paired.mapP h2 fun t s q => ?_⟩
  obtain ⟨a, b, q1, q2, q3⟩ := q
  exact ⟨a, b, Eq.trans (upd_ne (ne_of q1 e (fun z => nomatch z))) q1, Eq.trans (upd_ne (ne_of q2 e (fun z => nomatch z))) q2, Eq.trans (upd_ne (ne_of q3 e (fun z => nomatch z))) q3⟩
theorem newIns {H0 H : Hp} {x p C dx : Addr} {fs : List (Str × V)} {o : HO} {L : List Tri} {F : Form} (h : NewF H0 H p L F) (e : H x = some (.ins C dx fs)) : NewF H0 (upd H x o) p L F := by
  refine ⟨Eq.trans (upd_ne (ne_of h.lst e (fun z => nomatch z))) h.lst, ⟨L2.Paired.mapP h.all.at_ fun t s q => ?_, h.all.new, h.all.nd⟩, h.new, h.out⟩
  obtain ⟨q1, q2, q3⟩ := q
  exact ⟨Eq.trans (upd_ne (ne_of q1 e (fun z => nomatch z))) q1, Eq.trans (upd_ne (ne_of q2 e (fun z => nomatch z))) q2, Eq.trans (upd_ne (ne_of q3 e (fun z => nomatch z))) q3⟩

/-- an eater's fields -/
def eatFs (a b : Addr) : List (Str × V) := [("_tags", .ref a), ("_standings", .ref b)]
/-- an eater -/
def EatAt (C : Addr) (H : Hp) (e : Addr) (tags : Word) (G : Form) : Prop := ∃ dx a b, H e = some (.ins C dx (eatFs a b)) ∧ WordAt H a tags ∧ FormAt H b G
theorem EatAt.ext {T : List (Addr × Str)} {C e : Addr} {H H' : Hp} {tags : Word} {G : Form} (h : EatAt C H e tags G) (x : QB.Ext T H H') : EatAt C H' e tags G := by
  obtain ⟨dx, a, b, h1, h2, h3⟩ := h
  exact ⟨dx, a, b, x.get h1, x.word h2, x.form h3⟩
theorem EatAt.same {C e : Addr} {H H' : Hp} {tags : Word} {G : Form} (h : EatAt C H e tags G) (x : Same H H') : EatAt C H' e tags G := h.ext (Ext.of (T := []) x)
/-- a new eater: what it stands on is new -/
structure EatN (C : Addr) (H0 H : Hp) (e dx a b : Addr) (L : List Tri) (tags : Word) (G : Form) : Prop where
  ins : H e = some (.ins C dx (eatFs a b))
  tags : WordAt H a tags
  form : NewF H0 H b L G
  fe : Fresh H0 e
  fa : Fresh H0 a
theorem EatN.at_ {C e dx a b : Addr} {H0 H : Hp} {L : List Tri} {tags : Word} {G : Form} (h : EatN C H0 H e dx a b L tags G) : EatAt C H e tags G := ⟨dx, a, b, h.ins, h.tags, h.form.form⟩
theorem EatN.ext {T : List (Addr × Str)} {C e dx a b : Addr} {H0 H H' : Hp} {L : List Tri} {tags : Word} {G : Form} (h : EatN C H0 H e dx a b L tags G) (x : QB.Ext T H H') : EatN C H0 H' e dx a b L tags G := ⟨x.get h.ins, x.word h.tags, h.form.ext x, h.fe, h.fa⟩

def spInit (T : List (Addr × Str)) (C : Addr) : Sp := fun vs H Q _ => ∃ (x dx a b : Addr) (tags : Word) (F : Form) (H0 : Hp), vs = [.ref x, .ref a, .ref b] ∧ H x = some (.ins C dx []) ∧ WordAt H a tags ∧ FormAt H b F ∧ TagsOk tags ∧ FormOk tags F ∧ Tabs T H ∧ QB.Ext T H0 H ∧ Fresh H0 x ∧
  ∀ (a' b' : Addr) (L : List Tri) (H' : Hp), QB.Ext T H0 H' → Tabs T H' → EatN C H0 H' x dx a' b' L tags (least tags F) → Q .non H'
theorem ok_Eater___init__ (X : TX K mg) (TB : LamX.TabB base mg X.lam_c X.lam_P) : FnOk P w K mg base CX0 5 X.d_Eater___init__.a X.d_Eater___init__.fd ["self", "tags", "standings"] (spInit (Tof X) X.c_Eater) := by
  have nd := sc_Eater___init__.nd
  refine X.d_Eater___init__.F.ok sc_Eater___init__ (fun vs H Q E h => ?_) (fun cdv A outer s H vs Q E hr h => ?_)
  · obtain ⟨x, dx, a, b, tags, F, H0, rfl, _⟩ := h
    rfl
  · obtain ⟨x, dx, a, b, tags, F, H0, rfl, hx, ha, hb, to, fo, tb, e0, fx, k⟩ := h
    refine ⟨_, (pss_cons (ps_expr (pe_call (ok_check_tags X) (hr.mono (by decide)) rfl X.d_check_tags.mg X.d_check_tags.F.kp X.d_check_tags.b .nil pass0 (pa_cons (pv 1) pa_nil))) (pss_cons (ps_expr (pe_call (ok_check_standings X) (hr.mono (by decide)) rfl X.d_check_standings.mg X.d_check_standings.F.kp X.d_check_standings.b .nil pass0 (pa_cons (pv 1) (pa_cons (pv 2) pa_nil)))) (pss_cons (ps_fld (pv 0) (pe_callTy (QB.call_listK K) (by rfl) X.n_list QB.bo_list (pa_cons (pv 1) pa_nil)) rfl) (pss_one (ps_fld (pv 0) (pe_call (ok_least_form X TB) (hr.mono (by decide)) rfl X.d_least_form.mg X.d_least_form.F.kp X.d_least_form.b .nil pass0 (pa_cons (pv 1) (pa_cons (pv 2) pa_nil))) rfl))))), ?_⟩
    try dsimp only [Cx.nox, Cx.wish, cxOf]
    have htl := to.len
    refine ⟨_, rfl, a, tags, rfl, ha, to, fun H1 s1 => ?_⟩
    refine ⟨_, rfl, _, rfl, a, b, tags, F, rfl, Same.word s1 ha, Same.form s1 hb, fo, by omega, fun H2 s2 => ?_⟩
    have s12 := s1.trans s2
    refine ⟨_, rfl, ?_⟩
    dsimp only [tNil]
    refine ⟨_, _, rfl, .inl (SqL.of (Same.word s12 ha)), fun l hl => ?_⟩
    have sA : Same H (upd H2 l (.lst (vS tags))) := Same.new s12 hl
    have hxA := sA _ _ hx
    refine ⟨_, rfl, x, _, _, _, rfl, hxA, X.cl_Eater, X.na_Eater__tags, by decide, ?_⟩
    have haA : WordAt (upd H2 l (.lst (vS tags))) l tags := upd_same
    generalize upd H2 l (.lst (vS tags)) = HA at sA hxA haA ⊢
    have eB := (e0.trans (.of sA)).mut (o := .ins X.c_Eater dx [("_tags", .ref l)]) fx hxA
    have tB := tabs_mut (o := .ins X.c_Eater dx [("_tags", .ref l)]) (tb.ext sA) hxA True.intro
    refine ⟨_, rfl, _, rfl, a, b, tags, F, rfl, wordIns (Same.word sA ha) hxA, formIns (Same.form sA hb) hxA, fo.good, fo.words to, by omega, tB, fun p L H3 e3 t3 n3 => ?_⟩
    have hx3 := e3.get (p := x) upd_same
    refine ⟨_, rfl, x, _, _, _, rfl, hx3, X.cl_Eater, X.na_Eater__standings, by show (1 : Nat) < 1000; omega, ?_⟩
    exact k l p L _ ((eB.trans e3).mut fx hx3) (tabs_mut t3 hx3 True.intro) ⟨upd_same, wordIns (e3.word (wordIns haA hxA)) hx3, newIns (n3.old eB) hx3, fx, e0.fresh (.of (s12.free hl))⟩

def spLenE (C : Addr) : Sp := fun vs H Q _ => ∃ (e : Addr) (tags : Word) (G : Form), vs = [.ref e] ∧ EatAt C H e tags G ∧ Q (.int (G.length : Int)) H
theorem ok_Eater___len__ (X : TX K mg) : FnOk P w K mg base CX0 1 X.d_Eater___len__.a X.d_Eater___len__.fd ["self"] (spLenE X.c_Eater) := by
  have nd := sc_Eater___len__.nd
  refine X.d_Eater___len__.F.ok sc_Eater___len__ (fun vs H Q E h => ?_) (fun cdv A outer s H vs Q E hr h => ?_)
  · obtain ⟨e, tags, G, rfl, _⟩ := h
    rfl
  · obtain ⟨e, tags, G, rfl, ⟨dx, a, b, he, ha, hb⟩, k⟩ := h
    refine ⟨_, (pss_one (ps_ret (pe_callB (QB.call_lenK K) (by rfl) X.n_len PySem.boot_len (pa_cons (QB.pe_fldK K (pv 0) rfl) pa_nil)))), ?_⟩
    try dsimp only [Cx.nox, Cx.wish, cxOf]
    obtain ⟨vs, h1, h2⟩ := FormAt.lst hb
    refine ⟨_, rfl, e, _, _, _, _, rfl, he, X.cl_Eater, X.na_Eater__standings, rfl, ?_⟩
    dsimp only [tNil]
    refine ⟨_, _, rfl, .inl (SqL.of h1), ?_⟩
    rw [h2]
    exact k
def spTagsE (C : Addr) : Sp := fun vs H Q _ => ∃ (e : Addr) (tags : Word) (G : Form), vs = [.ref e] ∧ EatAt C H e tags G ∧ ∀ p, H p = none → Q (.ref p) (upd H p (.lst (vS tags)))
theorem ok_Eater_tags (X : TX K mg) : FnOk P w K mg base CX0 1 X.d_Eater_tags.a X.d_Eater_tags.fd ["self"] (spTagsE X.c_Eater) := by
  have nd := sc_Eater_tags.nd
  refine X.d_Eater_tags.F.ok sc_Eater_tags (fun vs H Q E h => ?_) (fun cdv A outer s H vs Q E hr h => ?_)
  · obtain ⟨e, tags, G, rfl, _⟩ := h
    rfl
  · obtain ⟨e, tags, G, rfl, ⟨dx, a, b, he, ha, hb⟩, k⟩ := h
    refine ⟨_, (pss_one (ps_ret (pe_callTy (QB.call_listK K) (by rfl) X.n_list QB.bo_list (pa_cons (QB.pe_fldK K (pv 0) rfl) pa_nil)))), ?_⟩
    try dsimp only [Cx.nox, Cx.wish, cxOf]
    refine ⟨_, rfl, e, _, _, _, _, rfl, he, X.cl_Eater, X.na_Eater__tags, rfl, ?_⟩
    dsimp only [tNil]
    exact ⟨_, _, rfl, .inl (SqL.of ha), k⟩
def spStandingsE (C : Addr) : Sp := fun vs H Q _ => ∃ (e : Addr) (tags : Word) (G : Form), vs = [.ref e] ∧ EatAt C H e tags G ∧ G.length ≤ 10000 ∧ ∀ (p : Addr) (L : List Tri) (H' : Hp), Same H H' → NewF H H' p L G → Q (.ref p) H'
theorem ok_Eater_standings (X : TX K mg) : FnOk P w K mg base CX0 2 X.d_Eater_standings.a X.d_Eater_standings.fd ["self"] (spStandingsE X.c_Eater) := by
  have nd := sc_Eater_standings.nd
  refine X.d_Eater_standings.F.ok sc_Eater_standings (fun vs H Q E h => ?_) (fun cdv A outer s H vs Q E hr h => ?_)
  · obtain ⟨e, tags, G, rfl, _⟩ := h
    rfl
  · obtain ⟨e, tags, G, rfl, ⟨dx, a, b, he, ha, hb⟩, hz, k⟩ := h
    refine ⟨_, (pss_one (ps_ret (pe_call (ok_copied X) (hr.mono (by decide)) rfl X.d_copied.mg X.d_copied.F.kp X.d_copied.b .nil pass0 (pa_cons (QB.pe_fldK K (pv 0) rfl) pa_nil)))), ?_⟩
    try dsimp only [Cx.nox, Cx.wish, cxOf]
    refine ⟨_, rfl, e, _, _, _, _, rfl, he, X.cl_Eater, X.na_Eater__standings, rfl, ?_⟩
    dsimp only [tNil]
    exact ⟨b, G, rfl, hb, hz, k⟩
def spOnE (C : Addr) : Sp := fun vs H Q _ => ∃ (e c : Addr) (tags : Word) (G : Form) (wd : Word), vs = [.ref e, .ref c] ∧ EatAt C H e tags G ∧ WordAt H c wd ∧ Good tags G ∧ (∀ t ∈ wd, t ∈ tags) ∧ wd.length ≤ 200 ∧ (∀ s ∈ G, s.1.length ≤ 10000) ∧
  ∀ (p : Addr) (H' : Hp), Same H H' → H p = none → H' p = some (.lst (vS (make tags G wd))) → Q (.ref p) H'
theorem ok_Eater_on (X : TX K mg) : FnOk P w K mg base CX0 4 X.d_Eater_on.a X.d_Eater_on.fd ["self", "subject"] (spOnE X.c_Eater) := by
  have nd := sc_Eater_on.nd
  refine X.d_Eater_on.F.ok sc_Eater_on (fun vs H Q E h => ?_) (fun cdv A outer s H vs Q E hr h => ?_)
  · obtain ⟨e, c, tags, G, wd, rfl, _⟩ := h
    rfl
  · obtain ⟨e, c, tags, G, wd, rfl, ⟨dx, a, b, he, ha, hb⟩, hw, g, hin, hz, hz2, k⟩ := h
    refine ⟨_, (pss_cons (ps_expr (pe_call (ok_check_word X) (hr.mono (by decide)) rfl X.d_check_word.mg X.d_check_word.F.kp X.d_check_word.b .nil pass0 (pa_cons (QB.pe_fldK K (pv 0) rfl) (pa_cons (pv 1) (pa_cons (pe_gc rfl X.c_LONGEST_SUBJECT) pa_nil))))) (pss_one (ps_ret (pe_call (ok_made X) (hr.mono (by decide)) rfl X.d_made.mg X.d_made.F.kp X.d_made.b .nil pass0 (pa_cons (QB.pe_fldK K (pv 0) rfl) (pa_cons (QB.pe_fldK K (pv 0) rfl) (pa_cons (pv 1) pa_nil))))))), ?_⟩
    try dsimp only [Cx.nox, Cx.wish, cxOf]
    refine ⟨_, rfl, ⟨e, _, _, _, _, rfl, he, X.cl_Eater, X.na_Eater__tags, rfl, ?_⟩⟩
    refine ⟨_, rfl, ?_⟩
    refine ⟨a, c, tags, wd, 200, rfl, ha, hw, by omega, hin, fun H1 s1 => ?_⟩
    refine ⟨_, rfl, e, _, _, _, _, rfl, s1 _ _ he, X.cl_Eater, X.na_Eater__tags, rfl, ?_⟩
    refine ⟨_, rfl, e, _, _, _, _, rfl, s1 _ _ he, X.cl_Eater, X.na_Eater__standings, rfl, ?_⟩
    refine ⟨_, rfl, ?_⟩
    exact ⟨a, b, c, tags, G, wd, rfl, Same.word s1 ha, Same.form s1 hb, Same.word s1 hw, g, hin, by omega, hz2, fun p H2 s2 n2 h2 => k p H2 (s1.trans s2) (s1.free n2) h2⟩
def spEqE (K : PySem.W.Frag) (C : Addr) : Sp := fun vs H Q _ => ∃ (e : Addr) (y : V) (tags : Word) (G : Form), vs = [.ref e, y] ∧ EatAt C H e tags G ∧ OkWord tags ∧ OkForm G ∧
  ((∃ (f : Addr) (tags2 : Word) (G2 : Form), y = .ref f ∧ EatAt C H f tags2 G2 ∧ OkWord tags2 ∧ OkForm G2 ∧ Q (.bl (decide (tags = tags2) && decide (G = G2))) H) ∨
   (∃ t, TyOf K H y t ∧ PySem.W.kitOne K t (.ref C) = some false ∧ Q (.bl false) H))
theorem ok_Eater___eq__ (X : TX K mg) : FnOk P w K mg base CX0 1 X.d_Eater___eq__.a X.d_Eater___eq__.fd ["self", "other"] (spEqE K X.c_Eater) := by
  have nd := sc_Eater___eq__.nd
  refine X.d_Eater___eq__.F.ok sc_Eater___eq__ (fun vs H Q E h => ?_) (fun cdv A outer s H vs Q E hr h => ?_)
  · obtain ⟨e, y, tags, G, rfl, _⟩ := h
    rfl
  · obtain ⟨e, y, tags, G, rfl, ⟨dx, a, b, he, ha, hb⟩, ot, oG, k⟩ := h
    refine ⟨_, (pss_cons (ps_if (pt_not (pt_val (pe_callB (QB.call_isiK K) (by rfl) X.n_isinstance QB.bo_isinstance (pa_cons (pv 1) (pa_cons (pe_glob (v := .ref X.c_Eater) rfl X.m_Eater rfl) pa_nil))))) (pss_one (ps_ret pe_bl)) pss_nil) (pss_one (ps_ret (pe_and (pe_cmpR (QB.op_eqDK K hr.units) (QB.pe_fldK K (pv 0) rfl) (QB.pe_fldK K (pv 1) rfl) (nomark _)) (pe_one (pe_cmpR (QB.op_eqDK K hr.units) (QB.pe_fldK K (pv 0) rfl) (QB.pe_fldK K (pv 1) rfl) (nomark _))))))), ?_⟩
    try dsimp only [Cx.nox, Cx.wish, cxOf]
    rcases k with ⟨f, tags2, G2, rfl, ⟨dx2, a2, b2, hf, ha2, hb2⟩, ot2, oG2, q⟩ | ⟨t, ht, hk, q⟩
    · refine ⟨_, rfl, ?_⟩
      dsimp only [tNil, tCons]
      refine ⟨_, _, _, _, true, rfl, .own _, .base (X.oc_Eater.ty X.cl_Eater hf), QO.OwnC.self, true, rfl, ?_⟩
      refine iteF ?_
      refine ⟨_, rfl, e, _, _, _, _, rfl, he, X.cl_Eater, X.na_Eater__tags, rfl, ?_⟩
      refine ⟨_, rfl, f, _, _, _, _, rfl, hf, X.cl_Eater, X.na_Eater__tags, rfl, ?_⟩
      refine eq_wd ha ha2 ot ot2 ?_
      refine ⟨_, rfl, ?_⟩
      by_cases z : tags = tags2
      · rw [decide_eq_true z] at q ⊢
        refine iteT ?_
        refine ⟨_, rfl, e, _, _, _, _, rfl, he, X.cl_Eater, X.na_Eater__standings, rfl, ?_⟩
        refine ⟨_, rfl, f, _, _, _, _, rfl, hf, X.cl_Eater, X.na_Eater__standings, rfl, ?_⟩
        exact eq_form hb hb2 oG oG2 q
      · rw [decide_eq_false z] at q ⊢
        exact iteF q
    · refine ⟨_, rfl, ?_⟩
      dsimp only [tNil, tCons]
      refine ⟨_, _, _, _, false, rfl, .own _, .base ht, hk, false, rfl, ?_⟩
      exact iteT q
end
end Law
end

section
set_option Elab.async false
set_option linter.all false
set_option maxRecDepth 100000
set_option maxHeartbeats 4000000
namespace Law
open PySem PySem.Spec PyProof.Rows L2 LamX QB QM
section
variable {P : Program} {w : World} {K : PySem.W.Frag} {mg : Str → Option Value} {base : Heap}

/-! ### what stays, but for some lists -/
def Exc (M : List Addr) (H H' : Hp) : Prop := ∀ a o, a ∉ M → H a = some o → H' a = some o
theorem Exc.refl {M : List Addr} {H : Hp} : Exc M H H := fun _ _ _ h => h
theorem Exc.trans {M : List Addr} {H H1 H2 : Hp} (a : Exc M H H1) (b : Exc M H1 H2) : Exc M H H2 := fun c o n h => b c o n (a c o n h)
theorem Exc.of {M : List Addr} {H H' : Hp} (a : Same H H') : Exc M H H' := fun c o _ h => a c o h
theorem Exc.mono {M N : List Addr} {H H' : Hp} (a : Exc M H H') (h : ∀ x ∈ M, x ∈ N) : Exc N H H' := fun c o n e => a c o (fun z => n (h c z)) e
theorem Exc.new {M : List Addr} {H H' : Hp} {p : Addr} {o : HO} (a : Exc M H H') (h : H' p = none) : Exc M H (upd H' p o) := a.trans (.of (same_new h))
theorem Exc.mut {M : List Addr} {H H' : Hp} {p : Addr} {o : HO} (a : Exc M H H') (h : p ∈ M ∨ H p = none) : Exc M H (upd H' p o) := fun c u n e => by
  have : c ≠ p := fun z => by
    subst z
    rcases h with h | h
    · exact n h
    · rw [h] at e
      cases e
  rw [upd_ne this]
  exact a c u n e
theorem Exc.free {M : List Addr} {H H' : Hp} {p : Addr} (a : Exc M H H') (h : H' p = none) (n : p ∉ M) : H p = none := by
  cases e : H p with
  | none => rfl
  | some o =>
    rw [a p o n e] at h
    cases h
/-- the pile of draws -/
def PileAt (H : Hp) (p : Addr) : Prop := ∃ d c n : Int, H p = some (.lst [.int d, .int c, .int n])
theorem PileAt.free {H H' : Hp} {p q : Addr} (a : Exc [p] H H') (h : PileAt H p) (h' : PileAt H' p) (e : H' q = none) : H q = none := by
  have : q ≠ p := fun z => by
    subst z
    obtain ⟨_, _, _, h⟩ := h'
    rw [h] at e
    cases e
  exact a.free e (by simpa using this)

def spMixed : Sp := fun vs H Q _ => ∃ c k : Int, vs = [.int c, .int k] ∧ ∀ r : Int, Q (.int r) H
theorem emod_lt {i j : Int} (h : 0 < j) : 0 ≤ i % j ∧ i % j < j := ⟨Int.emod_nonneg i (by omega), Int.emod_lt_of_pos i h⟩
theorem ok__law_mixed (X : TX K mg) : FnOk P w K mg base CX0 1 X.d__law_mixed.a X.d__law_mixed.fd ["cell", "k"] spMixed := by
  have nd := sc__law_mixed.nd
  refine X.d__law_mixed.F.ok sc__law_mixed (fun vs H Q E h => ?_) (fun cdv A outer s H vs Q E hr h => ?_)
  · obtain ⟨c, k, rfl, _⟩ := h
    rfl
  · obtain ⟨c, k, rfl, q⟩ := h
    refine ⟨_, (pss_cons (ps_set (i := 2) nd rfl (Or.inl rfl) (pe_op op_mod (pe_op op_add (pe_op op_add (pe_op op_mul (pe_op op_mod (pe_callTy call_int1 (by rfl) X.n_int QB.bo_int (pa_cons (pv 0) pa_nil)) pe_int) pe_int) (pe_op op_mul (pv 1) pe_int)) pe_int) pe_int)) (pss_cons (ps_set (i := 2) nd rfl (Or.inl rfl) (pe_op op_mod (pe_op op_mul (pv 2) (pv 2)) pe_int)) (pss_one (ps_ret (pe_op op_fdiv (pe_op op_mod (pe_op op_mul (pv 2) (pv 2)) pe_int) pe_int))))), ?_⟩
    try dsimp only [Cx.nox, Cx.wish, cxOf]
    have m1 : (0 : Int) < 2147483647 := by decide
    have m2 : (0 : Int) < 2147483629 := by decide
    have m3 : (0 : Int) < 2147483587 := by decide
    refine ⟨_, rfl, .inl ⟨_, rfl, _, _, rfl, rfl, m1, _, _, rfl, rfl, .inr ⟨by decide, by decide⟩, _, rfl, _, _, rfl, rfl, .inr ⟨by decide, by decide⟩, _, _, rfl, rfl, _, _, rfl, rfl, _, _, rfl, rfl, m1, ?_⟩⟩
    refine ⟨_, rfl, _, rfl, _, _, rfl, rfl, ?_, _, _, rfl, rfl, m2, ?_⟩
    · have := emod_lt (i := c % 2147483647 * 48271 + k * 69621 + 11) m1
      refine .inl ⟨?_, ?_⟩ <;> omega
    refine ⟨_, rfl, _, rfl, _, _, rfl, rfl, ?_, _, _, rfl, rfl, m3, ?_⟩
    · have := emod_lt (i := (c % 2147483647 * 48271 + k * 69621 + 11) % 2147483647 * ((c % 2147483647 * 48271 + k * 69621 + 11) % 2147483647)) m2
      refine .inl ⟨?_, ?_⟩ <;> omega
    exact ⟨_, _, rfl, rfl, ⟨by decide, by decide⟩, q _⟩
theorem mul50 : CMulW ((10 : Int) ^ Int.toNat 50) ((10 : Int) ^ Int.toNat 50) := wide_mul (a := 200) (b := 200) (by decide +kernel) (by decide +kernel) (by decide) (by decide) (by decide)
theorem mul100 : CMulW ((10 : Int) ^ Int.toNat 50 * (10 : Int) ^ Int.toNat 50) ((10 : Int) ^ Int.toNat 50) := wide_mul (a := 400) (b := 200) (by decide +kernel) (by decide +kernel) (by decide) (by decide) (by decide)
theorem pos150 : (0 : Int) < (10 : Int) ^ Int.toNat 50 * (10 : Int) ^ Int.toNat 50 * (10 : Int) ^ Int.toNat 50 := by decide +kernel
def spPile (K : PySem.W.Frag) : Sp := fun vs H Q _ => ∃ (l : Addr) (ns : List Int) (k : Nat), vs = [.ref l, .int (k : Int)] ∧ SqL K H l (ns.map V.int) ∧ ∀ (p : Addr) (H' : Hp), Same H H' → H p = none → PileAt H' p → Q (.ref p) H'
theorem ok__law_pile (X : TX K mg) : FnOk P w K mg base CX0 3 X.d__law_pile.a X.d__law_pile.fd ["script", "k"] (spPile K) := by
  have nd := sc__law_pile.nd
  refine X.d__law_pile.F.ok sc__law_pile (fun vs H Q E h => ?_) (fun cdv A outer s H vs Q E hr h => ?_)
  · obtain ⟨l, ns, k, rfl, _⟩ := h
    rfl
  · obtain ⟨l, ns, k, rfl, hl, q⟩ := h
    refine ⟨_, (pss_cons (ps_set (i := 2) nd rfl (Or.inl rfl) pe_int) (pss_cons (ps_if (pt_cmpR op_lt (pv 1) (pe_callB (QB.call_lenK K) (by rfl) X.n_len PySem.boot_len (pa_cons (pv 0) pa_nil)) (nomark _)) (pss_one (ps_set (i := 2) nd rfl (Or.inl rfl) (pe_ix (QB.ix_listK K) (pv 0) (pv 1) (fun _ _ => rfl)))) pss_nil) (pss_cons (ps_set (i := 3) nd rfl (Or.inl rfl) (pe_op op_mod (pe_callTy call_int1 (by rfl) X.n_int QB.bo_int (pa_cons (pv 2) pa_nil)) (pe_op op_mulW (pe_op op_mulW (pe_op op_pow pe_int pe_int) (pe_op op_pow pe_int pe_int)) (pe_op op_pow pe_int pe_int)))) (pss_one (ps_ret (pe_lst (pa_cons (pe_op op_mul (pv 3) (pe_callTy call_int1 (by rfl) X.n_int QB.bo_int (pa_cons (pe_cmpR op_ge (pe_callB call_abs (by rfl) X.n_abs QB.bo_abs (pa_cons (pv 2) pa_nil)) (pe_op op_pow pe_int pe_int) (nomark _)) pa_nil))) (pa_cons (pe_op op_mod (pe_callTy call_int1 (by rfl) X.n_int QB.bo_int (pa_cons (pv 2) pa_nil)) pe_int) (pa_cons (pe_op op_mul pe_int (pv 1)) pa_nil))))))))), ?_⟩
    try dsimp only [Cx.nox, Cx.wish, cxOf]
    refine ⟨_, rfl, _, rfl, _, _, rfl, .inl hl, ?_⟩
    refine ⟨_, _, rfl, rfl, _, rfl, ?_⟩
    by_cases hj : k < ns.length
    case' pos =>
      rw [decide_eq_true (by rw [List.length_map]; omega)]
      refine iteT ?_
      refine ⟨_, rfl, _, rfl, l, ns.map V.int, (k : Int), _, rfl, rfl, hl, atI_nat (v := V.int (ns[k]'hj)) (by rw [List.getElem?_map, List.getElem?_eq_getElem hj]; rfl), ?_⟩
      generalize ns[k]'hj = c
    case' neg =>
      rw [decide_eq_false (by rw [List.length_map]; omega)]
      refine iteF ?_
    all_goals
      refine ⟨_, rfl, .inl ⟨_, rfl, ?_⟩⟩
      refine ⟨_, _, rfl, rfl, ⟨by decide, by decide, by decide⟩, _, _, rfl, rfl, ⟨by decide, by decide, by decide⟩, _, _, rfl, rfl, mul50, _, _, rfl, rfl, ⟨by decide, by decide, by decide⟩, _, _, rfl, rfl, mul100, _, _, rfl, rfl, pos150, ?_⟩
      refine ⟨_, rfl, _, rfl, _, rfl, _, _, rfl, rfl, ⟨by decide, by decide, by decide⟩, _, _, rfl, rfl, .inr ⟨_, rfl, ?_⟩⟩
      generalize decide ((10 : Int) ^ Int.toNat 18 ≤ _) = bb
      cases bb <;>
      · refine ⟨_, _, rfl, rfl, .inr ⟨by decide, by decide⟩, ?_⟩
        refine ⟨_, rfl, .inl ⟨_, rfl, _, _, rfl, rfl, by show (0 : Int) < 2147483647; decide, _, rfl, _, _, rfl, rfl, .inl ⟨by decide, by decide⟩, by show 3 ≤ sizeLine; decide, fun p hp => ?_⟩⟩
        exact q p _ (same_new hp) hp ⟨_, _, _, upd_same⟩
def spTake : Sp := fun vs H Q _ => ∃ (p : Addr) (m : Nat), vs = [.ref p, .int (m : Int)] ∧ 0 < m ∧ m ≤ 1000 ∧ PileAt H p ∧ ∀ (r : Nat) (H' : Hp), r < m → Exc [p] H H' → PileAt H' p → Q (.int (r : Int)) H'
theorem nat_of_mod {i : Int} {m : Nat} (h : 0 < m) : ∃ r : Nat, r < m ∧ i % (m : Int) = (r : Int) := by
  have := emod_lt (i := i) (show (0 : Int) < (m : Int) by omega)
  exact ⟨(i % (m : Int)).toNat, by omega, by omega⟩
theorem ok__law_take (X : TX K mg) : FnOk P w K mg base CX0 3 X.d__law_take.a X.d__law_take.fd ["pile", "many"] spTake := by
  have nd := sc__law_take.nd
  refine X.d__law_take.F.ok sc__law_take (fun vs H Q E h => ?_) (fun cdv A outer s H vs Q E hr h => ?_)
  · obtain ⟨p, m, rfl, _⟩ := h
    rfl
  · obtain ⟨p, m, rfl, m0, m1, ⟨d, c, n, hp⟩, q⟩ := h
    refine ⟨_, (pss_cons (ps_if (pt_cmpR op_eq (pe_ix (QB.ix_listK K) (pv 0) pe_int (fun _ _ => rfl)) pe_int (nomark _)) (pss_cons (ps_asg (pe_op op_add (pe_ix (QB.ix_listK K) (pv 0) pe_int (fun _ _ => rfl)) pe_int) (pg_sub (pv 0) pe_int set_list)) (pss_one (ps_ret (pe_op op_mod (pe_call (ok__law_mixed X) (hr.mono (by decide)) rfl X.d__law_mixed.mg X.d__law_mixed.F.kp X.d__law_mixed.b .nil pass0 (pa_cons (pe_ix (QB.ix_listK K) (pv 0) pe_int (fun _ _ => rfl)) (pa_cons (pe_ix (QB.ix_listK K) (pv 0) pe_int (fun _ _ => rfl)) pa_nil))) (pv 1))))) pss_nil) (pss_cons (ps_set (i := 2) nd rfl (Or.inl rfl) (pe_op op_mod (pe_callTy call_int1 (by rfl) X.n_int QB.bo_int (pa_cons (pe_ix (QB.ix_listK K) (pv 0) pe_int (fun _ _ => rfl)) pa_nil)) (pv 1))) (pss_cons (ps_asg (pe_op op_fdiv (pe_ix (QB.ix_listK K) (pv 0) pe_int (fun _ _ => rfl)) (pv 1)) (pg_sub (pv 0) pe_int set_list)) (pss_one (ps_ret (pv 2)))))), ?_⟩
    try dsimp only [Cx.nox, Cx.wish, cxOf]
    refine ⟨_, rfl, p, _, _, _, rfl, rfl, SqL.of hp, rfl, ?_⟩
    refine ⟨rfl, _, rfl, ?_⟩
    generalize decide (V.int d = V.int 0) = bb
    cases bb
    · refine iteF ?_
      refine ⟨_, rfl, p, _, _, _, rfl, rfl, SqL.of hp, rfl, .inl ⟨_, rfl, ?_⟩⟩
      obtain ⟨r, hr1, hr2⟩ := nat_of_mod (i := d) m0
      refine ⟨_, rfl, _, _, rfl, rfl, by show (0 : Int) < m; omega, ?_⟩
      refine ⟨_, rfl, p, _, _, _, rfl, rfl, SqL.of hp, rfl, _, rfl, _, _, rfl, rfl, ⟨by omega, by omega⟩, ?_⟩
      refine ⟨_, rfl, p, _, _, 0, rfl, rfl, hp, rfl, _, rfl, ?_⟩
      show Q (.int (d % (m : Int))) _
      rw [hr2]
      exact q r _ hr1 (Exc.refl.mut (.inl (by simp))) ⟨_, _, _, upd_same⟩
    · refine iteT ?_
      refine ⟨_, rfl, p, _, _, _, rfl, rfl, SqL.of hp, rfl, _, _, rfl, rfl, ?_⟩
      refine ⟨_, rfl, p, _, _, 2, rfl, rfl, hp, rfl, ?_⟩
      generalize hH2 : upd H p _ = H2
      have hp2 : H2 p = some (.lst [V.int d, V.int c, V.int (n + 1)]) := by rw [← hH2]; exact upd_same
      have s2 : Exc [p] H H2 := by rw [← hH2]; exact Exc.refl.mut (.inl (by simp))
      refine ⟨_, rfl, p, _, _, _, rfl, rfl, SqL.of hp2, rfl, ?_⟩
      refine ⟨_, rfl, p, _, _, _, rfl, rfl, SqL.of hp2, rfl, ?_⟩
      refine ⟨_, _, rfl, fun r0 => ?_⟩
      obtain ⟨r, hr1, hr2⟩ := nat_of_mod (i := r0) m0
      refine ⟨_, rfl, _, _, rfl, rfl, by show (0 : Int) < m; omega, ?_⟩
      show Q (.int (r0 % (m : Int))) H2
      rw [hr2]
      exact q r _ hr1 s2 ⟨_, _, _, hp2⟩
end
end Law
end

section
set_option Elab.async false
set_option linter.all false
set_option maxRecDepth 100000
/-! Qtext: texts by their signs. -/
namespace QT
open PySem PySem.Spec PyProof.Rows L2 TL
theorem tl_cutL (z : Str) (k : Nat) : tl (cutS z none (some (k : Int))) = (tl z).take k := by
  unfold cutS
  rw [HT.sIx_nat, HT.sIx_none, List.drop_zero, Nat.sub_zero, tl_mk]
  show _ = z.cps.toList.take k
  have e : z.length = z.cps.toList.length := len_tl z
  by_cases h : k ≤ z.length
  · rw [Nat.min_eq_left h]
  · rw [Nat.min_eq_right (by omega), List.take_of_length_le (by omega), List.take_of_length_le (by omega)]
theorem tl_cutR (z : Str) (k : Nat) : tl (cutS z (some (k : Int)) none) = (tl z).drop k := by
  unfold cutS
  rw [HT.sIx_nat, HT.sIx_none, tl_mk]
  show _ = z.cps.toList.drop k
  have e : z.length = z.cps.toList.length := len_tl z
  by_cases h : k ≤ z.length
  · rw [Nat.min_eq_left h, List.take_of_length_le (by rw [List.length_drop]; omega)]
  · rw [Nat.min_eq_right (by omega), List.drop_eq_nil_of_le (by omega), List.drop_eq_nil_of_le (by omega), List.take_nil]
theorem joinL_nil : ∀ l : List (List Nat), joinL [] l = l.flatten
  | [] => rfl
  | [p] => by simp [joinL]
  | p :: q :: r => by
    rw [joinL, joinL_nil (q :: r)]
    simp
theorem tl_join0 (ys : List Str) : tl (Txt.join Str.empty ys) = (ys.map tl).flatten := by
  rw [join_eq, tl_join]
  exact joinL_nil _
/-- the letters -/
def abc : Str := "abcdefghijklmnopqrstuvwxyz"
theorem abc_len : abc.length = 26 := by decide +kernel
theorem abc_tl : tl abc = (List.range 26).map (97 + ·) := by decide +kernel
theorem abc_mem {c : Nat} : c ∈ tl abc ↔ 97 ≤ c ∧ c < 123 := by
  rw [abc_tl, List.mem_map]
  constructor
  · rintro ⟨i, hi, rfl⟩
    rw [List.mem_range] at hi
    omega
  · rintro ⟨h1, h2⟩
    exact ⟨c - 97, List.mem_range.mpr (by omega), by omega⟩
theorem abc_at {i : Nat} (h : i < 26) : abc.cps[i]? = some (97 + i) := by
  have e : (tl abc)[i]? = some (97 + i) := by
    rw [abc_tl, List.getElem?_map, List.getElem?_range h]
    rfl
  rw [← e]
  simp [tl]
theorem abc_item {i : Int} (h0 : 0 ≤ i) (h : i < 26) : abc.cps[i.toNat]? = some (97 + i.toNat) := abc_at (by omega)
/-- a sign within fixed ones -/
theorem mid_inj {A B T T' : List Nat} {c d : Nat} (h : A ++ [c] ++ B ++ T = A ++ [d] ++ B ++ T') : c = d := by
  have e := congrArg (fun l : List Nat => l[A.length]?) h
  simpa using e
end QT
end

section
set_option Elab.async false
set_option linter.all false
set_option maxRecDepth 100000
set_option maxHeartbeats 4000000
namespace Law
open PySem PySem.Spec PyProof.Rows L2 LamX QB QM TL QT
section
variable {P : Program} {w : World} {K : PySem.W.Frag} {mg : Str → Option Value} {base : Heap}
theorem PileAt.upd {H : Hp} {p q : Addr} {o : HO} (h : PileAt H p) (n : p ≠ q) : PileAt (L2.upd H q o) p := by
  obtain ⟨d, c, k, e⟩ := h
  exact ⟨d, c, k, (upd_ne n).trans e⟩
theorem PileAt.ne {H : Hp} {p q : Addr} (h : PileAt H p) (n : H q = none) : p ≠ q := fun z => by
  subst z
  obtain ⟨_, _, _, e⟩ := h
  rw [n] at e
  cases e
theorem PileAt.same {H H' : Hp} {p : Addr} (h : PileAt H p) (s : Same H H') : PileAt H' p := by
  obtain ⟨d, c, k, e⟩ := h
  exact ⟨d, c, k, s _ _ e⟩
theorem sum_ones : ∀ l : List Nat, ((l.map fun y => (⟨#[97 + y]⟩ : Str)).map (·.length)).sum = l.length
  | [] => rfl
  | y :: l => by
    rw [List.map_cons, List.map_cons, List.sum_cons, sum_ones l, List.length_cons]
    show 1 + l.length = l.length + 1
    omega
def paces : List Nat := [1, 3, 5, 7, 9, 11, 15, 17, 19, 21, 23, 25]
def plains : Word := ["re", "fwd", "list", "aw", "r", "ext", "re", "fwd", "list", "aw", "r"]
theorem paces_inj : ∀ c ∈ paces, ∀ sh < 26, ∀ i < 6, ∀ j < 6, 97 + (sh + c * i) % 26 = 97 + (sh + c * j) % 26 → i = j := by decide +kernel
theorem plains_nd : ∀ k < 6, ∀ m < 7, ((plains.drop k).take m).Nodup := by decide +kernel
theorem plains_len : ∀ k < 6, ∀ m < 7, m ≤ 5 ∨ k ≤ 5 → ((plains.drop k).take m).length = m := by decide +kernel
theorem plains_txt : ∀ t ∈ plains, (decide (1 ≤ t.length) && decide (t.length ≤ 8) && t.cps.toList.all fun c => decide (c ∈ letters.cps.toList)) = true := by decide +kernel
theorem plains_tags {k m : Nat} (hk : k < 6) (h0 : 1 ≤ m) (hm : m ≤ 6) : TagsOk ((plains.drop k).take m) := by
  have h2 := plains_len k hk m (by omega) (.inr (by omega))
  refine ⟨by rw [h2]; exact h0, by rw [h2]; exact hm, plains_nd k hk m (by omega), fun t ht => ?_⟩
  have h := plains_txt t (List.mem_of_mem_drop (List.mem_of_mem_take ht))
  rw [Bool.and_eq_true, Bool.and_eq_true, List.all_eq_true] at h
  exact ⟨of_decide_eq_true h.1.1, of_decide_eq_true h.1.2, fun c hc => of_decide_eq_true (h.2 c hc)⟩
theorem cut_both {xs : List V} {i m : Nat} (h : i + m ≤ xs.length) : cutV xs (some (i : Int)) (some ((i : Int) + (m : Int))) = (xs.drop i).take m := by
  rw [show (i : Int) + (m : Int) = ((i + m : Nat) : Int) by omega]
  unfold cutV
  rw [HT.sIx_nat, HT.sIx_nat, Nat.min_eq_left (by omega), Nat.min_eq_left (by omega), Nat.add_sub_cancel_left]
/-- one drawn name -/
def nameOf (w : Str) (at_ sh pc i : Nat) : Str := cutS w none (some (at_ : Int)) ++ (⟨#[97 + (sh + pc * i) % 26]⟩ : Str) ++ cutS w (some (at_ : Int)) none
theorem tl_name (w : Str) (at_ sh pc i : Nat) : tl (nameOf w at_ sh pc i) = (tl w).take at_ ++ [97 + (sh + pc * i) % 26] ++ (tl w).drop at_ := by
  unfold nameOf
  rw [tl_append, tl_append, tl_cutL, tl_cutR]
theorem name_len (w : Str) (at_ sh pc i : Nat) : (nameOf w at_ sh pc i).length = w.length + 1 := by
  have e1 : (nameOf w at_ sh pc i).length = (tl (nameOf w at_ sh pc i)).length := len_tl _
  have e2 : w.length = (tl w).length := len_tl w
  have e3 : ((tl w).take at_).length + ((tl w).drop at_).length = (tl w).length := by rw [← List.length_append, List.take_append_drop]
  rw [e1, tl_name, List.length_append, List.length_append, e2]
  simp only [List.length_cons, List.length_nil]
  omega
theorem cut_lens (w : Str) (k : Nat) : (cutS w none (some (k : Int))).length ≤ w.length ∧ (cutS w (some (k : Int)) none).length ≤ w.length := by
  have e1 : (cutS w none (some (k : Int))).length = ((tl w).take k).length := (len_tl _).trans (congrArg List.length (tl_cutL w k))
  have e2 : (cutS w (some (k : Int)) none).length = ((tl w).drop k).length := (len_tl _).trans (congrArg List.length (tl_cutR w k))
  have e3 : w.length = (tl w).length := len_tl w
  rw [e1, e2, e3, List.length_take, List.length_drop]
  exact ⟨Nat.min_le_right _ _, Nat.sub_le _ _⟩
theorem len_add (x y : Str) : (x ++ y).length = x.length + y.length := by
  have e1 : (x ++ y).length = (tl (x ++ y)).length := len_tl _
  have e2 : x.length = (tl x).length := len_tl x
  have e3 : y.length = (tl y).length := len_tl y
  rw [e1, tl_append, List.length_append, e2, e3]
theorem names_tags {w : Str} {at_ sh pc m : Nat} (hw : w.length < 8) (hc : ∀ c ∈ tl w, 97 ≤ c ∧ c < 123) (hs : sh < 26) (hp : pc ∈ paces) (h0 : 1 ≤ m) (hm : m ≤ 6) : TagsOk ((List.range m).map fun i => nameOf w at_ sh pc i) := by
  refine ⟨by simpa using h0, by simpa using hm, ?_, fun t ht => ?_⟩
  · refine List.pairwise_map.mpr (List.nodup_range.imp_of_mem fun {i j} hi hj hne z => hne ?_)
    have z2 : tl (nameOf w at_ sh pc i) = tl (nameOf w at_ sh pc j) := congrArg tl z
    rw [tl_name, tl_name] at z2
    rw [List.mem_range] at hi hj
    have z3 : (tl w).take at_ ++ [97 + (sh + pc * i) % 26] ++ (tl w).drop at_ ++ [] = (tl w).take at_ ++ [97 + (sh + pc * j) % 26] ++ (tl w).drop at_ ++ [] := by rw [z2]
    exact paces_inj pc hp sh hs i (by omega) j (by omega) (mid_inj z3)
  · obtain ⟨i, _, rfl⟩ := List.mem_map.mp ht
    have hl := name_len w at_ sh pc i
    refine ⟨by omega, by omega, fun c hcm => ?_⟩
    refine (abc_mem (c := c)).mpr ?_
    have hcm : c ∈ tl (nameOf w at_ sh pc i) := hcm
    rw [tl_name] at hcm
    rcases List.mem_append.mp hcm with h | h
    · rcases List.mem_append.mp h with h | h
      · exact hc c (List.mem_of_mem_take h)
      · rw [List.mem_singleton.mp h]
        omega
    · exact hc c (List.mem_of_mem_drop h)
theorem PileAt.ne2 {H : Hp} {p q : Addr} {w : Word} (h : PileAt H p) (e : H q = some (.lst (vS w))) : q ≠ p := fun z => by
  subst z
  obtain ⟨d, c, n, h⟩ := h
  rw [h] at e
  have e := HO.lst.inj (Option.some.inj e)
  cases w with
  | nil => cases e
  | cons t w =>
    have := (List.cons.inj e).1
    cases this
theorem wordEx {H H' : Hp} {p a : Addr} {t : Word} (e : Exc [p] H H') (n : a ≠ p) (h : WordAt H a t) : WordAt H' a t := e _ _ (by simpa using n) h
def spTags : Sp := fun vs H Q _ => ∃ (p : Addr) (m : Nat), vs = [.ref p, .int (m : Int)] ∧ 1 ≤ m ∧ m ≤ 6 ∧ PileAt H p ∧ ∀ (tags : Word) (q : Addr) (H' : Hp), TagsOk tags → tags.length = m → Exc [p] H H' → PileAt H' p → H q = none → WordAt H' q tags → Q (.ref q) H'
theorem ok__law_tags (X : TX K mg) : FnOk P w K mg base CX0 4 X.d__law_tags.a X.d__law_tags.fd ["pile", "many"] spTags := by
  have nd := sc__law_tags.nd
  refine X.d__law_tags.F.ok sc__law_tags (fun vs H Q E h => ?_) (fun cdv A outer s H vs Q E hr h => ?_)
  · obtain ⟨p, m, rfl, _⟩ := h
    rfl
  · obtain ⟨p, m, rfl, m0, m1, hp, q⟩ := h
    refine ⟨_, (pss_cons (ps_set (i := 2) nd rfl (Or.inr rfl) pe_str) (pss_cons (ps_if (pt_cmpR op_eq (pe_call (ok__law_take X) (hr.mono (by decide)) rfl X.d__law_take.mg X.d__law_take.F.kp X.d__law_take.b .nil pass0 (pa_cons (pv 0) (pa_cons pe_int pa_nil))) pe_int (nomark _)) (pss_cons (ps_set (i := 3) nd rfl (Or.inl rfl) (pe_lst (pa_cons pe_str (pa_cons pe_str (pa_cons pe_str (pa_cons pe_str (pa_cons pe_str (pa_cons pe_str (pa_cons pe_str (pa_cons pe_str (pa_cons pe_str (pa_cons pe_str (pa_cons pe_str pa_nil))))))))))))) (pss_cons (ps_set (i := 4) nd rfl (Or.inr rfl) (pe_call (ok__law_take X) (hr.mono (by decide)) rfl X.d__law_take.mg X.d__law_take.F.kp X.d__law_take.b .nil pass0 (pa_cons (pv 0) (pa_cons pe_int pa_nil)))) (pss_one (ps_ret (pe_slice (QB.sl_listK K) (pv 3) (po_some (pv 4)) (po_some (pe_op op_add (pv 4) (pv 1)))))))) pss_nil) (pss_cons (ps_set (i := 5) nd rfl (Or.inr rfl) (pe_join pe_str (pe_lc (own := [("k", 8)]) (g := gName 8) (tt := tYes) rfl nd (pi_range1 (by rfl) X.n_range (pa_cons (pe_call (ok__law_take X) (hr.mono (by decide)) rfl X.d__law_take.mg X.d__law_take.F.kp X.d__law_take.b .nil pass0 (pa_cons (pv 0) (pa_cons pe_int pa_nil))) pa_nil)) (blkOk_by (N := ["pile", "many", "letters", "plain", "at", "stem", "shift", "pace", "k"]) (sc := defScope s__law_tags) (by decide +kernel)) (fun _ _ _ _ _ => pg_name (i := 8) nd rfl (Or.inl rfl)) (fun _ _ _ _ _ => pts_nil) (fun _ _ _ _ _ => (pe_item_str (pv 2) (pe_call (ok__law_take X) (hr.mono (by decide)) rfl X.d__law_take.mg X.d__law_take.F.kp X.d__law_take.b .nil pass0 (pa_cons (pv 0) (pa_cons pe_int pa_nil))) (fun _ _ => rfl)))))) (pss_cons (ps_set (i := 4) nd rfl (Or.inr rfl) (pe_call (ok__law_take X) (hr.mono (by decide)) rfl X.d__law_take.mg X.d__law_take.F.kp X.d__law_take.b .nil pass0 (pa_cons (pv 0) (pa_cons (pe_op op_add (pe_callB call_len_str (by rfl) X.n_len PySem.boot_len (pa_cons (pv 5) pa_nil)) pe_int) pa_nil)))) (pss_cons (ps_set (i := 6) nd rfl (Or.inr rfl) (pe_call (ok__law_take X) (hr.mono (by decide)) rfl X.d__law_take.mg X.d__law_take.F.kp X.d__law_take.b .nil pass0 (pa_cons (pv 0) (pa_cons pe_int pa_nil)))) (pss_cons (ps_set (i := 7) nd rfl (Or.inr rfl) (pe_ix (QB.ix_listK K) (pe_lst (pa_cons pe_int (pa_cons pe_int (pa_cons pe_int (pa_cons pe_int (pa_cons pe_int (pa_cons pe_int (pa_cons pe_int (pa_cons pe_int (pa_cons pe_int (pa_cons pe_int (pa_cons pe_int (pa_cons pe_int pa_nil))))))))))))) (pe_call (ok__law_take X) (hr.mono (by decide)) rfl X.d__law_take.mg X.d__law_take.F.kp X.d__law_take.b .nil pass0 (pa_cons (pv 0) (pa_cons pe_int pa_nil))) (fun _ _ => rfl))) (pss_one (ps_ret (pe_lc (own := [("k", 8)]) (g := gName 8) (tt := tYes) rfl nd (pi_range1 (by rfl) X.n_range (pa_cons (pv 1) pa_nil)) (blkOk_by (N := ["pile", "many", "letters", "plain", "at", "stem", "shift", "pace", "k"]) (sc := defScope s__law_tags) (by decide +kernel)) (fun _ _ _ _ _ => pg_name (i := 8) nd rfl (Or.inl rfl)) (fun _ _ _ _ _ => pts_nil) (fun _ _ _ _ _ => (pe_op op_add_str (pe_op op_add_str (pe_slice sl_str (pv 5) po_none (po_some (pv 4))) (pe_item_str (pv 2) (pe_op op_mod (pe_op op_add (pv 6) (pe_op op_mul (pv 7) (pv 8))) pe_int) (fun _ _ => rfl))) (pe_slice sl_str (pv 5) (po_some (pv 4)) po_none)))))))))))), ?_⟩
    try dsimp only [Cx.nox, Cx.wish, cxOf]
    -- the plain names
    refine ⟨_, rfl, p, 2, rfl, by decide, by decide, hp, fun r0 H0 hr0 x0 p0 => ?_⟩
    refine ⟨rfl, _, rfl, ?_⟩
    generalize decide (V.int (r0 : Int) = V.int 0) = b0
    cases b0
    case' true =>
      refine iteT ?_
      refine ⟨by show 11 ≤ sizeLine; decide, fun t2 ht2 => ?_⟩
      have s6 : Same H0 (upd H0 t2 (.lst (vS plains))) := same_new ht2
      have h6 : (upd H0 t2 (.lst (vS plains))) t2 = some (.lst (vS plains)) := upd_same
      have e6 : upd H0 t2 (.lst (vS plains)) = upd H0 t2 (.lst [V.str (Str.ofString "re"), V.str (Str.ofString "fwd"), V.str (Str.ofString "list"), V.str (Str.ofString "aw"), V.str (Str.ofString "r"), V.str (Str.ofString "ext"), V.str (Str.ofString "re"), V.str (Str.ofString "fwd"), V.str (Str.ofString "list"), V.str (Str.ofString "aw"), V.str (Str.ofString "r")]) := rfl
      generalize upd H0 t2 (.lst (vS plains)) = H6 at s6 h6 e6
      rw [← e6]
      clear e6
      refine ⟨_, rfl, p, 6, rfl, by decide, by decide, p0.same s6, fun k H7 hk x7 p7 => ?_⟩
      have h7 : WordAt H7 t2 plains := wordEx x7 ((p0.same s6).ne2 h6) h6
      refine ⟨_, rfl, _, rfl, _, rfl, _, rfl, _, rfl, _, _, rfl, rfl, _, rfl, t2, _, rfl, SqL.of h7, fun t3 ht3 => ?_⟩
      rw [cut_both (by rw [vS_len]; show k + m ≤ 11; omega), vS_drop, vS_take]
      have s8 := same_new (o := .lst (vS ((plains.drop k).take m))) ht3
      have xz := (x0.trans (.of s6)).trans x7
      exact q _ t3 _ (plains_tags hk m0 m1) (plains_len _ hk _ (by omega) (.inr (by omega))) (xz.trans (.of s8)) (p7.same s8) (hp.free xz p7 ht3) upd_same
    refine iteF ?_
    refine ⟨⟨_, rfl⟩, _, rfl, ?_⟩
    refine ⟨p, 8, rfl, by decide, by decide, p0, fun r H1 hr1 x1 p1 => ?_⟩
    refine ⟨_, rfl, by omega, by omega, fun D hD => ?_⟩
    have hDp : D ≠ p := fun z => by
      subst z
      obtain ⟨_, _, _, h⟩ := p1
      rw [h] at hD
      cases hD
    refine lc_it (walk_range (lo := 0) (n := r)) (fun i H' => Exc [p] H1 H' ∧ PileAt H' p ∧ ∃ ys : List Nat, ys.length = i ∧ H' D = some (.lst (ys.map fun y => V.str ⟨#[97 + y]⟩)) ∧ ∀ y ∈ ys, y < 26)
      ⟨Exc.refl.mut (.inr hD), p1.upd hDp.symm, [], rfl, upd_same, fun _ h => nomatch h⟩ (fun _ _ _ _ => True.intro) ?_ ?_
    · rintro i x H2 H3 hi ⟨x2, p2, ys, hl, hDl, hy⟩ ⟨rfl, rfl⟩
      refine ⟨rfl, _, rfl, _, rfl, ?_⟩
      refine ⟨p, 26, rfl, by decide, by decide, p2, fun r2 H4 hr2 x4 p4 => ?_⟩
      refine ⟨abc, _, _, rfl, rfl, by omega, by omega, by rw [abc_len]; omega, abc_item (by omega) (by omega), ?_⟩
      have hD4 := x4 D _ (by simpa using hDp) hDl
      refine ⟨_, hD4, by rw [List.length_map]; exact sz_lt (by omega), (x2.trans x4).mut (.inr hD), p4.upd hDp.symm, ys ++ [r2], by rw [List.length_append, hl]; rfl, ?_, ?_⟩
      · rw [upd_same, List.map_append]
        rfl
      · intro y hy'
        rcases List.mem_append.mp hy' with h | h
        · exact hy y h
        · rw [List.mem_singleton.mp h]
          exact hr2
    · rintro H2 ⟨x2, p2, ys, hl, hDl, hy⟩
      have hys : ys.map (fun y => V.str ⟨#[97 + y]⟩) = (ys.map fun y => (⟨#[97 + y]⟩ : Str)).map V.str := by rw [List.map_map]; rfl
      rw [hys] at hDl
      refine ⟨_, D, ys.map fun y => (⟨#[97 + y]⟩ : Str), rfl, rfl, .inl (SqL.of hDl), ?_, ?_⟩
      · rw [sum_ones, List.length_map]
        show ys.length + ys.length * 0 ≤ 16777216
        omega
      have hw : tl (Txt.join (Str.ofString "") (ys.map fun y => (⟨#[97 + y]⟩ : Str))) = ys.map (97 + ·) := by
        rw [show Str.ofString "" = Str.empty from rfl, tl_join0, List.map_map]
        clear hDl hys hl hy
        induction ys with
        | nil => rfl
        | cons y ys ih =>
          rw [List.map_cons, List.flatten_cons, ih]
          rfl
      generalize Txt.join (Str.ofString "") (ys.map fun y => (⟨#[97 + y]⟩ : Str)) = w at hw ⊢
      have hwl : w.length = r := by
        rw [len_tl w, show (tl w).length = (ys.map (97 + ·)).length from congrArg List.length hw, List.length_map]
        exact hl
      have hwc : ∀ c ∈ tl w, 97 ≤ c ∧ c < 123 := fun c hc => by
        rw [hw] at hc
        obtain ⟨y, hy', rfl⟩ := List.mem_map.mp hc
        have := hy y hy'
        omega
      have xA := x1.trans x2
      clear hw hys hDl hy
      show tSeq _ _ _ _ _
      have hsz : w.length ≤ sizeLine := by rw [hwl]; exact Nat.le_trans (Nat.le_of_lt hr1) (by decide)
      refine ⟨_, rfl, _, rfl, w, rfl, hsz, _, _, rfl, rfl, ?_⟩
      refine ⟨p, w.length + 1, rfl, by omega, by omega, p2, fun at_ H3 hat x3 p3 => ?_⟩
      refine ⟨_, rfl, p, 26, rfl, by decide, by decide, p3, fun sh H4 hsh x4 p4 => ?_⟩
      refine ⟨by show 12 ≤ sizeLine; decide, fun t1 ht1 => ?_⟩
      have s5 := same_new (o := .lst (paces.map fun n : Nat => V.int (n : Int))) ht1
      refine ⟨_, rfl, p, 12, rfl, by decide, by decide, p4.same s5, fun pi H5 hpi x5 p5 => ?_⟩
      have hpl : paces[pi]? = some (paces[pi]'hpi) := List.getElem?_eq_getElem hpi
      have hpm : paces[pi]'hpi ∈ paces := List.getElem_mem hpi
      have ht1p := p4.ne ht1
      refine ⟨t1, _, _, V.int ((paces[pi]'hpi : Nat) : Int), rfl, rfl, SqL.of (x5 t1 _ (by simpa using ht1p.symm) upd_same), atI_nat (by
        show (paces.map fun n : Nat => V.int (n : Int))[pi]? = _
        rw [List.getElem?_map, hpl]
        rfl), ?_⟩
      generalize paces[pi]'hpi = pc at hpm hpl ⊢
      have xB := (((xA.trans x3).trans x4).trans (.of s5)).trans x5
      clear s5 x5 hpl ht1p ht1 xA x3 x4 p3 p4 p2 x2 p1 x1 hD
      dsimp only [gName]
      generalize hσ : List.set _ 7 _ = σ6
      have eσ : σ6 = [some (.ref p), some (.int (m : Int)), some (.str abc), none, some (.int (at_ : Int)), some (.str w), some (.int (sh : Int)), some (.int (pc : Int)), none] := by
        rw [← hσ]
        rfl
      subst eσ
      clear hσ
      refine ⟨_, rfl, (m : Int), rfl, by omega, by omega, fun D2 hD2 => ?_⟩
      refine lc_map (walk_range (lo := 0) (n := m)) hD2 (by omega) (fun _ _ => True.intro) (fun i => .str (nameOf w at_ sh pc i)) ?_ ?_
      · rintro i x H6 H7 kk hi s6 ⟨rfl, rfl⟩ hk
        have hv : ((sh : Int) + (pc : Int) * (0 + (i : Nat))) % 26 = (((sh + pc * i) % 26 : Nat) : Int) := by
          rw [Int.zero_add, ← Int.natCast_mul, ← Int.natCast_add]
          omega
        have hc := cut_lens w at_
        refine ⟨rfl, ?_⟩
        refine ⟨_, rfl, _, rfl, _, rfl, w, rfl, hsz, ?_⟩
        refine ⟨_, rfl, _, rfl, _, rfl, _, rfl, _, _, rfl, rfl, ?_, _, _, rfl, rfl, _, _, rfl, rfl, by show (0 : Int) < 26; decide, ?_⟩
        · refine .inl ⟨?_, ?_⟩
          · show -(2 ^ 64) < (pc : Int)
            omega
          · show (pc : Int) < 2 ^ 64
            have : ∀ c ∈ paces, c < 100 := by decide
            have := this pc hpm
            omega
        have hlt : (sh + pc * i) % 26 < 26 := Nat.mod_lt _ (by decide)
        refine ⟨abc, (((sh + pc * i) % 26 : Nat) : Int), 97 + (sh + pc * i) % 26, rfl, congrArg V.int hv, by omega, by omega, by rw [abc_len]; omega, abc_item (by omega) (by omega), ?_⟩
        refine ⟨_, _, rfl, rfl, ?_, ?_⟩
        · show _ + 1 ≤ sizeLine
          exact sz_le (by omega)
        refine ⟨_, rfl, _, rfl, _, rfl, w, rfl, hsz, ?_⟩
        refine ⟨_, _, rfl, rfl, ?_, ?_⟩
        · rw [len_add]
          show _ + 1 + _ ≤ sizeLine
          exact sz_le (by omega)
        exact hk _ (Same.refl _)
      · intro H6 s6 e6
        have tg := names_tags (w := w) (at_ := at_) (sh := sh) (pc := pc) (m := m) (by omega) hwc hsh hpm m0 m1
        refine q ((List.range m).map fun i => nameOf w at_ sh pc i) D2 H6 tg (by rw [List.length_map, List.length_range]) ((x0.trans xB).trans (.of s6)) (p5.same s6) (hp.free (x0.trans xB) p5 hD2) ?_
        unfold WordAt vS
        rw [List.map_map]
        exact e6
end
end Law
end

section
set_option Elab.async false
set_option linter.all false
set_option maxRecDepth 100000
set_option maxHeartbeats 4000000
namespace Law
open PySem PySem.Spec PyProof.Rows L2 LamX QB QM
section
variable {P : Program} {w : World} {K : PySem.W.Frag} {mg : Str → Option Value} {base : Heap}
theorem newLExc {H0 H H' : Hp} {p : Addr} {L : List Tri} {F : Form} (n : NewL H0 H L F) (e : Exc [p] H H') (hp : PileAt H0 p) : NewL H0 H' L F := by
  obtain ⟨d, c, k, hp⟩ := hp
  refine ⟨paired_mem n.at_ fun x s hx q => ?_, n.new, n.nd⟩
  obtain ⟨f1, f2, f3⟩ := n.new x hx
  have g1 := f1.ne hp
  have g2 := f2.ne hp
  have g3 := f3.ne hp
  exact ⟨e _ _ (by simpa using g1.symm) q.1, e _ _ (by simpa using g2.symm) q.2.1, e _ _ (by simpa using g3.symm) q.2.2⟩
theorem newLSnoc {H0 H : Hp} {t a b : Addr} {L : List Tri} {F : Form} {s : Std} (n : NewL H0 H L F) (h1 : H t = some (.tup [.ref a, .ref b])) (h2 : WordAt H a s.1) (h3 : WaysAt H b s.2) (f1 : Fresh H0 t) (f2 : Fresh H0 a) (f3 : Fresh H0 b) (o1 : a ∉ inner L) (o2 : b ∉ inner L) (hab : a ≠ b) :
    NewL H0 H (L ++ [(t, a, b)]) (F ++ [s]) := by
  refine ⟨Paired.snoc n.at_ ⟨h1, h2, h3⟩, fun x hx => ?_, ?_⟩
  · rcases List.mem_append.mp hx with hx | hx
    · exact n.new x hx
    · rw [List.mem_singleton.mp hx]
      exact ⟨f1, f2, f3⟩
  · rw [inner_append, List.nodup_append]
    refine ⟨n.nd, ?_, fun x hx y hy => ?_⟩
    · show [a, b].Nodup
      simp [hab]
    · have hy : y = a ∨ y = b := by simpa [inner] using hy
      rcases hy with rfl | rfl
      · exact fun z => o1 (z ▸ hx)
      · exact fun z => o2 (z ▸ hx)
theorem vWs_flat {ws : Ways} : (vWs ws).all flatV = true := by
  rw [List.all_eq_true]
  intro x hx
  obtain ⟨y, _, rfl⟩ := List.mem_map.mp hx
  cases y <;> rfl
theorem wordExc {H H' : Hp} {p a : Addr} {t : Word} (e : Exc [p] H H') (n : a ≠ p) (h : WordAt H a t) : WordAt H' a t := e _ _ (by simpa using n) h
theorem PileAt.word {H : Hp} {p a : Addr} {t : Word} (h : PileAt H p) (ha : WordAt H a t) : a ≠ p := fun z => by
  subst z
  obtain ⟨_, _, _, h⟩ := h
  unfold WordAt at ha
  rw [h] at ha
  injection ha with ha
  injection ha with ha
  cases t with
  | nil => cases ha
  | cons => cases ha
theorem vWs_snoc (ws : Ways) (x : Option Nat) : vWs ws ++ [vW x] = vWs (ws ++ [x]) := by
  unfold vWs
  rw [List.map_append]
  rfl
theorem atI_last {ys : List V} {v : V} : atI (ys ++ [v]) (-1) = some v := by
  have e : ixN (ys ++ [v]).length (-1) = some ys.length := by
    unfold ixN
    rw [if_neg (by decide), List.length_append, if_pos (by show -((ys.length + 1 : Nat) : Int) ≤ -1; omega)]
    congr 1
    show (-1 + ((ys.length + 1 : Nat) : Int)).toNat = ys.length
    omega
  unfold atI
  rw [e]
  simp
def spWord : Sp := fun vs H Q _ => ∃ (p a : Addr) (tags : Word) (most : Nat), vs = [.ref p, .ref a, .int (most : Int)] ∧ most ≤ 900 ∧ PileAt H p ∧ WordAt H a tags ∧ TagsOk tags ∧
  ∀ (wd : Word) (q : Addr) (H' : Hp), (∀ t ∈ wd, t ∈ tags) → wd.length ≤ most → Exc [p] H H' → PileAt H' p → H q = none → WordAt H' q wd → Q (.ref q) H'
theorem ok__law_word (X : TX K mg) : FnOk P w K mg base CX0 4 X.d__law_word.a X.d__law_word.fd ["pile", "tags", "most"] spWord := by
  have nd := sc__law_word.nd
  refine X.d__law_word.F.ok sc__law_word (fun vs H Q E h => ?_) (fun cdv A outer s H vs Q E hr h => ?_)
  · obtain ⟨p, a, tags, most, rfl, _⟩ := h
    rfl
  · obtain ⟨p, a, tags, most, rfl, m1, hp, ha, to, k⟩ := h
    refine ⟨_, (pss_one (ps_ret (pe_lc (own := [("turn", 3)]) (g := gName 3) (tt := tYes) rfl nd (pi_range1 (by rfl) X.n_range (pa_cons (pe_call (ok__law_take X) (hr.mono (by decide)) rfl X.d__law_take.mg X.d__law_take.F.kp X.d__law_take.b .nil pass0 (pa_cons (pv 0) (pa_cons (pe_op op_add (pv 2) pe_int) pa_nil))) pa_nil)) (blkOk_by (N := ["pile", "tags", "most", "turn"]) (sc := defScope s__law_word) (by decide +kernel)) (fun _ _ _ _ _ => pg_name (i := 3) nd rfl (Or.inl rfl)) (fun _ _ _ _ _ => pts_nil) (fun _ _ _ _ _ => (pe_ix (QB.ix_listK K) (pv 1) (pe_call (ok__law_take X) (hr.mono (by decide)) rfl X.d__law_take.mg X.d__law_take.F.kp X.d__law_take.b .nil pass0 (pa_cons (pv 0) (pa_cons (pe_callB (QB.call_lenK K) (by rfl) X.n_len PySem.boot_len (pa_cons (pv 1) pa_nil)) pa_nil))) (fun _ _ => rfl)))))), ?_⟩
    try dsimp only [Cx.nox, Cx.wish, cxOf]
    have ap := hp.word ha
    refine ⟨_, rfl, _, rfl, _, _, rfl, rfl, ?_⟩
    refine ⟨p, most + 1, rfl, by omega, by omega, hp, fun r2 H4 hr2 x4 p4 => ⟨_, rfl, by omega, by omega, fun W hW => ?_⟩⟩
    have hWp := p4.ne hW
    have ha4 := wordExc x4 ap ha
    refine lc_it (walk_range (lo := 0) (n := r2)) (fun i H' => Exc [p] H4 H' ∧ PileAt H' p ∧ ∃ ys : Word, ys.length = i ∧ WordAt H' W ys ∧ ∀ t ∈ ys, t ∈ tags)
      ⟨Exc.refl.mut (.inr hW), p4.upd hWp, [], rfl, upd_same, fun _ h => nomatch h⟩ (fun _ _ _ _ => True.intro) ?_ ?_
    · rintro j x H5 H6 hj ⟨x5, p5, ys, hl, hWl, hy⟩ ⟨rfl, rfl⟩
      refine ⟨rfl, _, rfl, _, rfl, ?_⟩
      have ha5 := wordExc x5 ap ha4
      refine ⟨_, rfl, _, _, rfl, .inl (SqL.of ha5), ?_⟩
      have h1 := to.pos
      have h2 := to.len
      refine ⟨p, tags.length, by rw [vS_len]; rfl, by omega, by omega, p5, fun r3 H7 hr3 x7 p7 => ?_⟩
      have e3 : tags[r3]? = some (tags[r3]'hr3) := List.getElem?_eq_getElem hr3
      refine ⟨a, _, _, _, rfl, rfl, SqL.of (wordExc x7 ap ha5), atI_nat (vS_get e3), ?_⟩
      have hW7 := wordExc x7 hWp.symm hWl
      refine ⟨_, hW7, by rw [vS_len]; exact sz_lt (by omega), (x5.trans x7).mut (.inr hW), p7.upd hWp, ys ++ [tags[r3]'hr3], by rw [List.length_append, hl]; rfl, ?_, ?_⟩
      · unfold WordAt
        rw [upd_same, ← vS_append]
        rfl
      · intro t ht
        rcases List.mem_append.mp ht with h | h
        · exact hy t h
        · rw [List.mem_singleton.mp h]
          exact List.getElem_mem hr3
    · rintro H5 ⟨x5, p5, wd, hwl, hWd, hwt⟩
      exact k wd W H5 hwt (by omega) (x4.trans x5) p5 (hp.free x4 p4 hW) hWd
def spStandings : Sp := fun vs H Q _ => ∃ (p a : Addr) (tags : Word) (most long : Nat), vs = [.ref p, .ref a, .int (most : Int), .int (long : Int)] ∧ 1 ≤ most ∧ most ≤ 30 ∧ long ≤ 8 ∧ PileAt H p ∧ WordAt H a tags ∧ TagsOk tags ∧
  ∀ (F : Form) (L : List Tri) (q : Addr) (H' : Hp), FormOk tags F → F.length ≤ most → (∀ s ∈ F, s.1.length ≤ long) → Exc [p] H H' → PileAt H' p → NewF H H' q L F → Q (.ref q) H'
theorem ok__law_standings (X : TX K mg) : FnOk P w K mg base CX0 5 X.d__law_standings.a X.d__law_standings.fd ["pile", "tags", "most", "long"] spStandings := by
  have nd := sc__law_standings.nd
  refine X.d__law_standings.F.ok sc__law_standings (fun vs H Q E h => ?_) (fun cdv A outer s H vs Q E hr h => ?_)
  · obtain ⟨p, a, tags, most, long, rfl, _⟩ := h
    rfl
  · obtain ⟨p, a, tags, most, long, rfl, m0, m1, l1, hp, ha, to, q⟩ := h
    refine ⟨_, (pss_cons (ps_set (i := 4) nd rfl (Or.inl rfl) (pe_op op_add pe_int (pe_call (ok__law_take X) (hr.mono (by decide)) rfl X.d__law_take.mg X.d__law_take.F.kp X.d__law_take.b .nil pass0 (pa_cons (pv 0) (pa_cons (pv 2) pa_nil))))) (pss_cons (ps_set (i := 5) nd rfl (Or.inl rfl) (pe_lst pa_nil)) (pss_cons (ps_for PassesOwn.never rfl (pi_range1 (by rfl) X.n_range (pa_cons (pv 4) pa_nil)) (pg_name (i := 6) nd rfl (Or.inl rfl)) (pss_cons (ps_set (i := 7) nd rfl (Or.inl rfl) (pe_lst pa_nil)) (pss_cons (ps_for PassesOwn.never rfl (QB.pi_listK K (pv 1)) (pg_name (i := 8) nd rfl (Or.inl rfl)) (pss_one (ps_expr (QB.pe_bmK K PySem.F.plainAttrs_list PySem.F.slot_list_append PySem.F.type_list_append mt_append (pv 7) (pa_cons (pe_ix (QB.ix_listK K) (pe_lst (pa_cons pe_non (pa_cons pe_non (pa_cons (pe_call (ok__law_take X) (hr.mono (by decide)) rfl X.d__law_take.mg X.d__law_take.F.kp X.d__law_take.b .nil pass0 (pa_cons (pv 0) (pa_cons (pv 4) pa_nil))) pa_nil)))) (pe_call (ok__law_take X) (hr.mono (by decide)) rfl X.d__law_take.mg X.d__law_take.F.kp X.d__law_take.b .nil pass0 (pa_cons (pv 0) (pa_cons pe_int pa_nil))) (fun _ _ => rfl)) pa_nil))))) (pss_one (ps_expr (QB.pe_bmK K PySem.F.plainAttrs_list PySem.F.slot_list_append PySem.F.type_list_append mt_append (pv 5) (pa_cons (pe_tup (pa_cons (pe_call (ok__law_word X) (hr.mono (by decide)) rfl X.d__law_word.mg X.d__law_word.F.kp X.d__law_word.b .nil pass0 (pa_cons (pv 0) (pa_cons (pv 1) (pa_cons (pv 3) pa_nil)))) (pa_cons (pv 7) pa_nil))) pa_nil))))))) (pss_one (ps_ret (pv 5)))))), ?_⟩
    try dsimp only [Cx.nox, Cx.wish, cxOf]
    refine ⟨_, rfl, _, rfl, ?_⟩
    refine ⟨p, most, rfl, by omega, by omega, hp, fun r H1 hr1 x1 p1 => ?_⟩
    show rI0 _ _ _ _ _
    refine ⟨_, _, rfl, rfl, ?_⟩
    refine ⟨by show 0 ≤ sizeLine; decide, fun D hD => ?_⟩
    have hDp := p1.ne hD
    have ap := hp.word ha
    show tSeq _ _ _ (List.set _ 5 _) _
    generalize hσ : List.set _ 5 _ = σ6
    have eσ : σ6 = [some (.ref p), some (.ref a), some (.int (most : Int)), some (.int (long : Int)), some (.int ((1 + r : Nat) : Int)), some (.ref D), none, none, none] := by
      rw [← hσ]
      rfl
    subst eσ
    clear hσ
    have hn : 1 + r ≤ most := by omega
    have hn1 : 1 ≤ 1 + r := by omega
    generalize 1 + r = n at hn hn1 ⊢
    clear hr1
    have hD0 : H D = none := hp.free x1 p1 hD
    refine ⟨_, rfl, (n : Int), rfl, by omega, by omega, ?_⟩
    refine for_it (walk_range (lo := 0) (n := n)) (fun i σ H' => ∃ (v6 v7 v8 : Option V) (F : Form) (L : List Tri), σ = [some (.ref p), some (.ref a), some (.int (most : Int)), some (.int (long : Int)), some (.int (n : Int)), some (.ref D), v6, v7, v8] ∧
        Exc [p] H H' ∧ PileAt H' p ∧ H' D = some (.lst (L.map fun x => V.ref x.1)) ∧ NewL H H' L F ∧ D ∉ inner L ∧ F.length = i ∧ (∀ s ∈ F, StdOk tags n s) ∧ ∀ s ∈ F, s.1.length ≤ long)
      ⟨none, none, none, [], [], rfl, x1.mut (.inr hD0), p1.upd hDp, upd_same, NewL.nil, by simp [inner], rfl, (fun _ h => nomatch h), fun _ h => nomatch h⟩ (fun _ _ _ _ _ => True.intro) ?_ ?_
    · rintro i x σ H2 H3 hi ⟨v6, v7, v8, F, L, rfl, x2, p2, hD2, nL, oD, hF, hok, hlg⟩ ⟨rfl, rfl⟩
      have hL := nL.len
      -- the ways
      refine ⟨by show 0 ≤ sizeLine; decide, fun V0 hV => ?_⟩
      have hVp := p2.ne hV
      have hV0 : H V0 = none := hp.free x2 p2 hV
      have hVD : V0 ≠ D := (ne_of_none hD2 hV).symm
      have hVin : V0 ∉ inner L := fun h => by
        obtain ⟨_, h⟩ := nL.there h
        rw [hV] at h
        cases h
      have s3 := same_new (o := .lst ([] : List V)) hV
      have xA := x2.trans (.of s3)
      have pA := p2.same s3
      have hDA := s3 _ _ hD2
      have nA := nL.same s3
      have hVA : WaysAt (upd H3 V0 (.lst [])) V0 [] := upd_same
      generalize upd H3 V0 (.lst []) = HA at xA pA hDA nA hVA ⊢
      clear s3 hV x2 p2 hD2 nL
      have haA := wordExc xA ap ha
      refine ⟨_, rfl, _, rfl, ⟨_, SqL.of haA⟩, ?_⟩
      refine for_it (walk_listW (K := K) (a := a) (w := tags)) (fun j σ H' => ∃ (v8 : Option V) (ws : Ways), σ = [some (.ref p), some (.ref a), some (.int (most : Int)), some (.int (long : Int)), some (.int (n : Int)), some (.ref D), some (.int (0 + (i : Int))), some (.ref V0), v8] ∧ Exc [p] H H' ∧ PileAt H' p ∧
          H' D = some (.lst (L.map fun x => V.ref x.1)) ∧ NewL H H' L F ∧ WaysAt H' V0 ws ∧ ws.length = j ∧ ∀ m, some m ∈ ws → m < n)
        ⟨_, [], rfl, xA, pA, hDA, nA, hVA, rfl, fun _ h => nomatch h⟩ (fun j σ H' _ ⟨_, _, _, x', _⟩ => wordExc x' ap ha) ?_ ?_
      · rintro j x σ H5 H6 hj ⟨v8, ws, rfl, x5, p5, hD5, n5, hV5, hwl, hwn⟩ ⟨t, ht, rfl, rfl⟩
        refine ⟨_, rfl, .inl ⟨rfl, _, SqL.of hV5⟩, ?_⟩
        refine ⟨_, rfl, _, rfl, p, n, rfl, by omega, by omega, p5, fun r7 H7 hr7 x7 p7 => ⟨by show 3 ≤ sizeLine; decide, fun u hu => ?_⟩⟩
        have s7 := same_new (o := .lst [V.non, V.non, V.int (r7 : Int)]) hu
        have hu7 : (upd H7 u (.lst [V.non, V.non, V.int (r7 : Int)])) u = some (.lst [V.non, V.non, V.int (r7 : Int)]) := upd_same
        have xB := x7.trans (.of s7)
        have pB := p7.same s7
        have hup := p7.ne hu
        generalize upd H7 u (.lst [V.non, V.non, V.int (r7 : Int)]) = HB at s7 hu7 xB pB ⊢
        refine ⟨_, rfl, p, 3, rfl, by decide, by decide, pB, fun r9 H9 hr9 x9 p9 => ?_⟩
        have hu9 := x9 u _ (by simpa using hup.symm) hu7
        have hix : ∃ wy : Option Nat, atI [V.non, V.non, V.int (r7 : Int)] (r9 : Int) = some (vW wy) ∧ ∀ m, wy = some m → m < n := by
          rcases (by omega : r9 = 0 ∨ r9 = 1 ∨ r9 = 2) with rfl | rfl | rfl
          · exact ⟨none, atI_nat (j := 0) rfl, fun _ h => nomatch h⟩
          · exact ⟨none, atI_nat (j := 1) rfl, fun _ h => nomatch h⟩
          · exact ⟨some r7, atI_nat (j := 2) rfl, fun m h => by rw [← Option.some.inj h]; exact hr7⟩
        obtain ⟨wy, hwy, hwy2⟩ := hix
        refine ⟨u, _, _, _, rfl, rfl, SqL.of hu9, hwy, ?_⟩
        have xC := xB.trans x9
        have hV9 : WaysAt H9 V0 ws := xC _ _ (by simpa using hVp.symm) hV5
        have hD9 := xC D _ (by simpa using hDp.symm) hD5
        have n9 := newLExc n5 xC hp
        refine ⟨V0, _, _, rfl, rfl, hV9, by rw [vWs_len, hwl]; have := to.len; exact sz_lt (by omega), ?_⟩
        rw [vWs_snoc]
        refine ⟨_, ws ++ [wy], rfl, (x5.trans xC).mut (.inr hV0), p9.upd hVp, (upd_ne hVD.symm).trans hD9, n9.upd hV9 hVin, upd_same, by rw [List.length_append, hwl]; rfl, fun m hm => ?_⟩
        rcases List.mem_append.mp hm with h | h
        · exact hwn m h
        · exact hwy2 m (List.mem_singleton.mp h).symm
      · rintro σ H5 ⟨v8, ws, rfl, x5, p5, hD5, n5, hV5, hwl, hwn⟩
        refine ⟨_, rfl, .inl ⟨rfl, _, SqL.of hD5⟩, ?_⟩
        refine ⟨_, rfl, _, rfl, _, rfl, p, a, tags, long, rfl, by omega, p5, wordExc x5 ap ha, to, fun wd W H6 hwt hwl2 x6 p6 nW hW => ?_⟩
        have hD6 := x6 D _ (by simpa using hDp.symm) hD5
        have n6 := newLExc n5 x6 hp
        have hV6 : WaysAt H6 V0 ws := x6 _ _ (by simpa using hVp.symm) hV5
        have xB := x5.trans x6
        have nWH : H W = none := hp.free x5 p5 nW
        have hWV : W ≠ V0 := (ne_of_none hV5 nW).symm
        have hWD : W ≠ D := (ne_of_none hD5 nW).symm
        have hWin : W ∉ inner L := fun h => by
          obtain ⟨_, h⟩ := n5.there h
          rw [nW] at h
          cases h
        refine ⟨_, rfl, by show 2 ≤ sizeLine; decide, fun t ht => ?_⟩
        have s7 := same_new (o := .tup [V.ref W, V.ref V0]) ht
        have nt : H t = none := hp.free xB p6 ht
        have htD : t ≠ D := (ne_of_none hD6 ht).symm
        have hp7 := p6.same s7
        have hD7 := s7 _ _ hD6
        have n7 := newLSnoc (s := (wd, ws)) (n6.same s7) (t := t) upd_same (Same.word s7 hW) (Same.ways s7 hV6) (.of nt) (.of nWH) (.of hV0) hWin hVin hWV
        generalize upd H6 t (.tup [V.ref W, V.ref V0]) = H7 at s7 hp7 hD7 n7 ⊢
        refine ⟨D, _, _, rfl, rfl, hD7, by rw [List.length_map, hL, hF]; exact sz_lt (by omega), ?_⟩
        have oD2 := not_inner_snoc (t := t) oD hWD.symm hVD.symm
        refine ⟨_, _, _, F ++ [(wd, ws)], L ++ [(t, W, V0)], rfl, (xB.trans (.of s7)).mut (.inr hD0), hp7.upd hDp, ?_, n7.upd hD7 oD2, oD2, by rw [List.length_append, hF]; rfl, fun s hs => ?_, fun s hs => ?_⟩
        · rw [upd_same, List.map_append]
          rfl
        · rcases List.mem_append.mp hs with h | h
          · exact hok s h
          · rw [List.mem_singleton.mp h]
            exact ⟨by show wd.length ≤ 8; omega, hwt, hwl, hwn⟩
        · rcases List.mem_append.mp hs with h | h
          · exact hlg s h
          · rw [List.mem_singleton.mp h]
            exact hwl2
    · rintro σ H2 ⟨v6, v7, v8, F, L, rfl, x2, p2, hD2, nL, oD, hF, hok, hlg⟩
      exact ⟨_, rfl, q F L D H2 ⟨by omega, by omega, fun s hs => by rw [hF]; exact hok s hs⟩ (by omega) hlg x2 p2 ⟨hD2, nL, .of hD0, oD⟩⟩
theorem ok__law_eaten (X : TX K mg) : FnOk P w K mg base CX0 3 X.d__law_eaten.a X.d__law_eaten.fd ["tags", "standings", "subject"] spMade := by
  have nd := sc__law_eaten.nd
  refine X.d__law_eaten.F.ok sc__law_eaten (fun vs H Q E h => ?_) (fun cdv A outer s H vs Q E hr h => ?_)
  · obtain ⟨a, b, c, tags, F, wd, rfl, _⟩ := h
    rfl
  · obtain ⟨a, b, c, tags, F, wd, rfl, hT, hF, hw, g, hin, hz, hz2, k⟩ := h
    refine ⟨_, (pss_cons (ps_asg (pe_tup (pa_cons pe_int (pa_cons pe_int pa_nil))) (pg_tup (by rfl) (pgs_cons (pg_name (i := 3) nd rfl (Or.inl rfl)) (pgs_cons (pg_name (i := 4) nd rfl (Or.inl rfl)) (pgs_nil))))) (pss_cons (ps_while PassesOwn.never (PW.pt (pw_and (pt_cmpR op_lt (pv 4) (pe_callB (QB.call_lenK K) (by rfl) X.n_len PySem.boot_len (pa_cons (pv 2) pa_nil)) (nomark _)) (pw_and1 (pt_cmpR op_notN (pe_ix (QB.ix_listK K) (pe_ix (QB.ix_tupK K) (pe_ix (QB.ix_listK K) (pv 1) (pv 3) (fun _ _ => rfl)) pe_int (fun _ _ => rfl)) (QB.pe_bmK K PySem.F.plainAttrs_list PySem.F.slot_list_index PySem.F.type_list_index (QB.mt_indexK K) (pv 0) (pa_cons (pe_ix (QB.ix_listK K) (pv 2) (pv 4) (fun _ _ => rfl)) pa_nil)) (fun _ _ => rfl)) pe_non (nomark _))))) (pss_cons (ps_set (i := 3) nd rfl (Or.inl rfl) (pe_ix (QB.ix_listK K) (pe_ix (QB.ix_tupK K) (pe_ix (QB.ix_listK K) (pv 1) (pv 3) (fun _ _ => rfl)) pe_int (fun _ _ => rfl)) (QB.pe_bmK K PySem.F.plainAttrs_list PySem.F.slot_list_index PySem.F.type_list_index (QB.mt_indexK K) (pv 0) (pa_cons (pe_ix (QB.ix_listK K) (pv 2) (pv 4) (fun _ _ => rfl)) pa_nil)) (fun _ _ => rfl))) (pss_one (ps_set (i := 4) nd rfl (Or.inl rfl) (pe_op op_add (pv 4) pe_int))))) (pss_one (ps_ret (pe_op op_cat (pe_ix (QB.ix_tupK K) (pe_ix (QB.ix_listK K) (pv 1) (pv 3) (fun _ _ => rfl)) pe_int (fun _ _ => rfl)) (pe_slice (QB.sl_listK K) (pv 2) (po_some (pv 4)) po_none)))))), ?_⟩
    try dsimp only [Cx.nox, Cx.wish, cxOf]
    refine ⟨by show 2 ≤ sizeLine; decide, fun tp htp => ?_⟩
    have s0 := same_new (o := .tup [V.int 0, V.int 0]) htp
    refine ⟨tp, _, rfl, SqT.of upd_same, rfl, _, _, rfl, _, _, rfl, rfl, ?_⟩
    generalize upd H tp (.tup [V.int 0, V.int 0]) = H0 at s0 ⊢
    refine ⟨fun m σ H' => ∃ at_ cnt : Nat, σ = [some (.ref a), some (.ref b), some (.ref c), some (.int (at_ : Int)), some (.int (cnt : Int))] ∧ Same H H' ∧ m = wd.length - cnt ∧ cnt ≤ wd.length ∧ at_ < F.length ∧ walkFrom tags F at_ cnt (wd.drop cnt) = walk tags F wd,
      ⟨_, 0, 0, rfl, s0, rfl, Nat.zero_le _, g.pos, rfl⟩, ?_⟩
    rintro m σ H1 ⟨at_, cnt, rfl, s1, rfl, hc, hat, hwk⟩
    refine ⟨_, rfl, _, rfl, _, _, rfl, .inl (SqL.of (Same.word s1 hw)), _, _, rfl, rfl, _, rfl, ?_⟩
    rw [vS_len]
    have eF : F[at_]? = some F[at_] := by simp [hat]
    have fin : ∀ (e : walk tags F wd = (at_, cnt)), ∀ (p : Addr) (H' : Hp), Same H1 H' → H1 p = none → H' p = some (.lst (vS (F[at_].1 ++ wd.drop cnt))) → Q (.ref p) H' := fun e p H' s' n' h' => by
      refine k p H' (s1.trans s') (s1.free n') ?_
      rw [h']
      unfold make
      rw [e, wordOf_of eF]
    obtain ⟨vs, t, p1, p2, f1, f2, f3, f4, f5, f6⟩ := (Same.form s1 hF).at eF
    have ret : (∀ (e : walk tags F wd = (at_, cnt)), tRet (tOp rCat (tOp (rIxT K) (tOp (rIxL K) (tVar 1) (tVar 3)) (tC (V.int 0))) (tSl (rSlL K) (tVar 2) (tPart (tVar 4)) tNoPart)) { nx := fun x H' => Q V.non H', rt := Q } [some (.ref a), some (.ref b), some (.ref c), some (.int (at_ : Int)), some (.int (cnt : Int))] H1) := fun e => by
      refine ⟨_, rfl, _, rfl, _, _, _, _, rfl, rfl, SqL.of f1, atI_nat f3, _, _, _, _, rfl, rfl, SqT.of f4, rfl, ?_⟩
      refine ⟨_, rfl, _, rfl, _, rfl, _, _, rfl, SqL.of (Same.word s1 hw), fun q hq => ?_⟩
      rw [cut_drop, vS_drop]
      refine ⟨_, _, _, _, rfl, rfl, Eq.trans (upd_ne (ne_of_none f5 hq)) f5, upd_same, ?_, fun p hp => ?_⟩
      · have z1 := hz2 _ (mem_of eF)
        have z2 : (wd.drop cnt).length ≤ wd.length := by rw [List.length_drop]; omega
        rw [vS_len, vS_len]
        exact sz_le (by omega)
      · have s2 : Same H1 (upd H1 q (.lst (vS (wd.drop cnt)))) := same_new hq
        refine fin e p _ (Same.new s2 hp) (s2.free hp) ?_
        rw [upd_same, vS_append]
    by_cases hlt : cnt < wd.length
    · rw [decide_eq_true (by omega)]
      refine iteT ?_
      have hx : wd[cnt]? = some wd[cnt] := List.getElem?_eq_getElem hlt
      have hxt : wd[cnt] ∈ tags := hin _ (List.mem_of_getElem? hx)
      have ed : wd.drop cnt = wd[cnt] :: wd.drop (cnt + 1) := List.drop_eq_getElem_cons hlt
      rw [ed] at hwk
      unfold walkFrom at hwk
      rw [wayAt_of eF] at hwk
      generalize wd[cnt] = tg at hx hxt hwk
      refine ⟨_, rfl, _, rfl, _, _, _, _, rfl, rfl, SqL.of f1, atI_nat f3, _, _, _, _, rfl, rfl, SqT.of f4, rfl, ?_⟩
      refine ⟨_, rfl, .inl ⟨rfl, _, SqL.of (Same.word s1 hT)⟩, _, rfl, _, rfl, _, _, _, _, rfl, rfl, SqL.of (Same.word s1 hw), atI_nat (vS_get hx), ?_⟩
      dsimp only [tNil]
      refine index_word (Same.word s1 hT) hxt ?_
      refine ⟨_, _, _, _, rfl, rfl, SqL.of f6, atI_nat (vWs_get (g.way eF hxt)), rfl, _, rfl, ?_⟩
      cases e : way tags F[at_] tg with
      | none =>
        rw [e] at hwk
        refine iteF ?_
        exact ret hwk.symm
      | some n =>
        rw [e] at hwk
        refine iteT ?_
        refine ⟨fun σ H' => ∃ at_ : Nat, σ = [some (.ref a), some (.ref b), some (.ref c), some (.int (at_ : Int)), some (.int ((cnt + 1 : Nat) : Int))] ∧ Same H H' ∧ at_ < F.length ∧ walkFrom tags F at_ (cnt + 1) (wd.drop (cnt + 1)) = walk tags F wd, ?_, ?_⟩
        · rintro σ' H' ⟨at2, rfl, s2, h2, h3⟩
          exact ⟨_, by omega, at2, cnt + 1, rfl, s2, rfl, by omega, h2, h3⟩
        · refine ⟨_, rfl, _, rfl, _, _, _, _, rfl, rfl, SqL.of f1, atI_nat f3, _, _, _, _, rfl, rfl, SqT.of f4, rfl, ?_⟩
          refine ⟨_, rfl, .inl ⟨rfl, _, SqL.of (Same.word s1 hT)⟩, _, rfl, _, rfl, _, _, _, _, rfl, rfl, SqL.of (Same.word s1 hw), atI_nat (vS_get hx), ?_⟩
          dsimp only [tNil]
          refine index_word (Same.word s1 hT) hxt ?_
          refine ⟨_, _, _, _, rfl, rfl, SqL.of f6, atI_nat (vWs_get (g.way eF hxt)), ?_⟩
          rw [e]
          exact ⟨_, rfl, _, _, rfl, rfl, n, rfl, s1, g.wayLt eF hxt e, hwk⟩
    · rw [decide_eq_false (by omega)]
      refine iteF (iteF ?_)
      have hd : wd.drop cnt = [] := List.drop_eq_nil_of_le (by omega)
      rw [hd] at hwk
      exact ret hwk.symm
end
end Law
end

section
set_option linter.all false
set_option autoImplicit false
/-! Qleast: what a form makes, and that its least form makes the same. -/
namespace QM
open PySem QB
/-- what is made from a standing on -/
def eff (tags : List Str) (F : Form) : Nat → Word → Word
  | k, [] => wordOf F k
  | k, t :: w => match wayAt tags F k t with
    | none => wordOf F k ++ t :: w
    | some b => eff tags F b w
theorem walkFrom_ge (tags : List Str) (F : Form) : ∀ (w : Word) (a k : Nat), k ≤ (walkFrom tags F a k w).2
  | [], _, _ => Nat.le_refl _
  | t :: w, a, k => by
    unfold walkFrom
    cases wayAt tags F a t with
    | none => exact Nat.le_refl _
    | some b => exact Nat.le_trans (Nat.le_succ k) (walkFrom_ge tags F w b (k + 1))
theorem walkFrom_eff (tags : List Str) (F : Form) : ∀ (w : Word) (a k : Nat), wordOf F (walkFrom tags F a k w).1 ++ w.drop ((walkFrom tags F a k w).2 - k) = eff tags F a w
  | [], _, _ => by simp [walkFrom, eff]
  | t :: w, a, k => by
    unfold walkFrom eff
    cases wayAt tags F a t with
    | none => simp
    | some b =>
      have h := walkFrom_ge tags F w b (k + 1)
      have ih := walkFrom_eff tags F w b (k + 1)
      show wordOf F (walkFrom tags F b (k + 1) w).1 ++ (t :: w).drop ((walkFrom tags F b (k + 1) w).2 - k) = eff tags F b w
      rw [← ih, show (walkFrom tags F b (k + 1) w).2 - k = ((walkFrom tags F b (k + 1) w).2 - (k + 1)) + 1 by omega, List.drop_succ_cons]
theorem make_eff (tags : List Str) (F : Form) (w : Word) : make tags F w = eff tags F 0 w := by
  have := walkFrom_eff tags F w 0 0
  rw [Nat.sub_zero] at this
  exact this

theorem wordOf_std {F : Form} {k : Nat} (h : k < F.length) : wordOf F k = (stdOf F k).1 := wordOf_of (stdOf_get h)
theorem wayAt_std {tags : List Str} {F : Form} {k : Nat} {t : Str} (h : k < F.length) : wayAt tags F k t = way tags (stdOf F k) t := wayAt_of (stdOf_get h)
theorem way_mem {tags : List Str} {s : Std} {t : Str} {n : Nat} (h : way tags s t = some n) : some n ∈ s.2 := by
  unfold way at h
  cases e : s.2[ixOf tags t]? with
  | none =>
    rw [e] at h
    cases h
  | some x =>
    rw [e] at h
    have h : x = some n := h
    rw [← h]
    exact List.mem_of_getElem? e
theorem Good.std_to {tags : List Str} {F : Form} (g : Good tags F) {k n : Nat} (hk : k < F.length) (h : some n ∈ (stdOf F k).2) : n < F.length := g.to _ (mem_of (stdOf_get hk)) n h
theorem Good.std_len {tags : List Str} {F : Form} (g : Good tags F) {k : Nat} (hk : k < F.length) : (stdOf F k).2.length = tags.length := g.len _ (mem_of (stdOf_get hk))

/-! ### without needless ways -/
theorem Pruned.std {tags : List Str} {F : Form} {st : Form × List Bool} (p : Pruned tags F st) {k : Nat} (hk : k < F.length) : (stdOf st.1 k).1 = (stdOf F k).1 ∧ (stdOf st.1 k).2.length = (stdOf F k).2.length ∧ ∀ n, some n ∈ (stdOf st.1 k).2 → some n ∈ (stdOf F k).2 :=
  p.word k _ (stdOf_get (by rw [p.len]; exact hk))
theorem way_prune {tags : List Str} {F : Form} {S : List Bool} {s : Std} {t : Str} (hl : s.2.length = tags.length) (ht : t ∈ tags) : way tags (pruneStd tags F S s) t = pruneWay F S s.1 t (way tags s t) := by
  have hlt : tags.idxOf t < tags.length := List.idxOf_lt_length_of_mem ht
  have e1 : tags[tags.idxOf t]? = some t := by rw [List.getElem?_eq_getElem hlt, List.getElem_idxOf]
  have e2 : s.2[tags.idxOf t]? = some (s.2[tags.idxOf t]'(by omega)) := List.getElem?_eq_getElem (by omega)
  have e3 := pruneWays_get (F := F) (S := S) e1 e2
  unfold way ixOf
  show ((pruneWays tags F S s)[tags.idxOf t]?).join = pruneWay F S s.1 t (s.2[tags.idxOf t]?).join
  rw [e3, e2]
  rfl
structure PInv (tags : List Str) (F : Form) (st : Form × List Bool) : Prop where
  p : Pruned tags F st
  same : ∀ (w : Word) (k : Nat), k < F.length → (∀ t ∈ w, t ∈ tags) → eff tags st.1 k w = eff tags F k w
  set : ∀ k, k < F.length → st.2.getD k false = true → ∀ w : Word, (∀ t ∈ w, t ∈ tags) → eff tags F k w = wordOf F k ++ w
theorem PInv.start {tags : List Str} {F : Form} : PInv tags F (F, List.replicate F.length false) :=
  ⟨Pruned.start tags F, fun _ _ _ _ => rfl, fun k hk h => by
    have h : (List.replicate F.length false).getD k false = true := h
    rw [List.getD_eq_getElem?_getD, List.getElem?_replicate, if_pos hk] at h
    cases h⟩
theorem eff_cons {tags : List Str} {F : Form} {k : Nat} {t : Str} {w : Word} : eff tags F k (t :: w) = match wayAt tags F k t with
    | none => wordOf F k ++ t :: w
    | some b => eff tags F b w := rfl
theorem PInv.step {tags : List Str} {F : Form} (g : Good tags F) {st : Form × List Bool} (i : PInv tags F st) {k : Nat} (hk : k < F.length) : PInv tags F (needStep tags F st k) := by
  have p' := i.p.step g hk
  have len' := p'.len
  have ss := i.p.std hk
  have gl := g.std_len hk
  have wd : ∀ j, j < F.length → wordOf (needStep tags F st k).1 j = wordOf F j := fun j hj => by
    rw [wordOf_std (by rw [len']; exact hj), wordOf_std hj]
    exact (p'.std hj).1
  have wj : ∀ j t, j < F.length → j ≠ k → wayAt tags (needStep tags F st k).1 j t = wayAt tags st.1 j t := fun j t hj hne => by
    unfold wayAt
    show ((st.1.set k _)[j]?).bind _ = _
    rw [List.getElem?_set_ne (Ne.symm hne)]
  have wk : ∀ t, t ∈ tags → wayAt tags (needStep tags F st k).1 k t = pruneWay F st.2 (stdOf F k).1 t (wayAt tags st.1 k t) := fun t ht => by
    have e : (needStep tags F st k).1[k]? = some (pruneStd tags F st.2 (stdOf st.1 k)) := by
      show (st.1.set k _)[k]? = _
      rw [List.getElem?_set_self (by rw [i.p.len]; exact hk)]
    rw [wayAt_of e, way_prune (by rw [ss.2.1, gl]) ht, ss.1, wayAt_std (by rw [i.p.len]; exact hk)]
  have same : ∀ (w : Word) (j : Nat), j < F.length → (∀ t ∈ w, t ∈ tags) → eff tags (needStep tags F st k).1 j w = eff tags F j w := by
    intro w
    induction w with
    | nil => exact fun j hj _ => wd j hj
    | cons t w ih =>
      intro j hj ht
      have ht1 := ht t List.mem_cons_self
      have htw : ∀ x ∈ w, x ∈ tags := fun x hx => ht x (List.mem_cons_of_mem _ hx)
      rw [← i.same (t :: w) j hj ht, eff_cons, eff_cons]
      have wds : wordOf st.1 j = wordOf F j := by
        rw [wordOf_std (by rw [i.p.len]; exact hj), wordOf_std hj]
        exact (i.p.std hj).1
      have lt : ∀ n, wayAt tags st.1 j t = some n → n < F.length := fun n hn => by
        rw [wayAt_std (by rw [i.p.len]; exact hj)] at hn
        exact g.std_to hj ((i.p.std hj).2.2 n (way_mem hn))
      by_cases hjk : j = k
      · subst hjk
        rw [wk t ht1]
        cases e : wayAt tags st.1 j t with
        | none => show wordOf _ j ++ t :: w = wordOf st.1 j ++ t :: w; rw [wd j hj, wds]
        | some n =>
          have hn := lt n e
          by_cases hd : isNeedless F st.2 (stdOf F j).1 t n = true
          · have e2 : pruneWay F st.2 (stdOf F j).1 t (some n) = none := if_pos hd
            rw [e2]
            show wordOf _ j ++ t :: w = eff tags st.1 n w
            unfold isNeedless at hd
            rw [Bool.and_eq_true] at hd
            rw [i.same w n hn htw, i.set n hn hd.1 w htw, wd j hj, wordOf_std hn, of_decide_eq_true hd.2, wordOf_std hj]
            simp
          · have e2 : pruneWay F st.2 (stdOf F j).1 t (some n) = some n := if_neg hd
            rw [e2]
            show eff tags _ n w = eff tags st.1 n w
            rw [ih n hn htw, i.same w n hn htw]
      · rw [wj j t hj hjk]
        cases e : wayAt tags st.1 j t with
        | none => show wordOf _ j ++ t :: w = wordOf st.1 j ++ t :: w; rw [wd j hj, wds]
        | some n =>
          have hn := lt n e
          show eff tags _ n w = eff tags st.1 n w
          rw [ih n hn htw, i.same w n hn htw]
  refine ⟨p', same, fun j hj hs w hw => ?_⟩
  have hs : (st.2.set k ((pruneWays tags F st.2 (stdOf st.1 k)).all Option.isNone)).getD j false = true := hs
  rw [List.getD_eq_getElem?_getD] at hs
  by_cases hjk : k = j
  · subst hjk
    rw [List.getElem?_set_self (by rw [i.p.lenS]; exact hk)] at hs
    have hs : (pruneWays tags F st.2 (stdOf st.1 k)).all Option.isNone = true := hs
    rw [← same w k hk hw]
    cases w with
    | nil =>
      show wordOf _ k = _
      rw [wd k hk, List.append_nil]
    | cons t w =>
      rw [eff_cons]
      cases e : wayAt tags (needStep tags F st k).1 k t with
      | none => show wordOf _ k ++ _ = _; rw [wd k hk]
      | some n =>
        have e1 : (needStep tags F st k).1[k]? = some (pruneStd tags F st.2 (stdOf st.1 k)) := by
          show (st.1.set k _)[k]? = _
          rw [List.getElem?_set_self (by rw [i.p.len]; exact hk)]
        rw [wayAt_of e1] at e
        have := List.all_eq_true.mp hs _ (way_mem e)
        cases this
  · rw [List.getElem?_set_ne hjk, ← List.getD_eq_getElem?_getD] at hs
    exact i.set j hj hs w hw
theorem PInv.fold {tags : List Str} {F : Form} (g : Good tags F) : ∀ (ks : List Nat) (st : Form × List Bool), PInv tags F st → (∀ k ∈ ks, k < F.length) → PInv tags F (ks.foldl (needStep tags F) st)
  | [], _, p, _ => p
  | k :: ks, st, p, h => PInv.fold g ks (needStep tags F st k) (p.step g (h k List.mem_cons_self)) fun j hj => h j (List.mem_cons_of_mem _ hj)
theorem needInv {tags : List Str} {F : Form} (g : Good tags F) : PInv tags F (needFold tags F (byLen F)) := PInv.fold g _ _ PInv.start fun k hk => byLen_lt hk
theorem needless_eff {tags : List Str} {F : Form} (g : Good tags F) {w : Word} {k : Nat} (hk : k < F.length) (hw : ∀ t ∈ w, t ∈ tags) : eff tags (needless tags F) k w = eff tags F k w := (needInv g).same w k hk hw
theorem needless_length {tags : List Str} {F : Form} (g : Good tags F) : (needless tags F).length = F.length := (needInv g).p.len
theorem needless_good {tags : List Str} {F : Form} (g : Good tags F) : Good tags (needless tags F) := by
  have p := (needInv g).p
  have hl := p.len
  have key : ∀ s ∈ needless tags F, ∃ k, k < F.length ∧ s = stdOf (needless tags F) k := fun s hs => by
    obtain ⟨k, hk, e⟩ := List.mem_iff_getElem.mp hs
    have e' : (needless tags F)[k]? = some s := by rw [List.getElem?_eq_getElem hk, e]
    rw [stdOf_get hk] at e'
    exact ⟨k, by rw [← needless_length g]; exact hk, (Option.some.inj e').symm⟩
  refine ⟨by rw [needless_length g]; exact g.pos, fun s hs => ?_, fun s hs n hn => ?_, by rw [needless_length g]; exact g.small⟩
  · obtain ⟨k, hk, rfl⟩ := key s hs
    exact (p.std hk).2.1.trans (g.std_len hk)
  · obtain ⟨k, hk, rfl⟩ := key s hs
    rw [needless_length g]
    exact g.std_to hk ((p.std hk).2.2 n hn)
end QM
end

section
set_option linter.all false
set_option autoImplicit false
/-! Qleast2: classes that stay, the order in which they are met. -/
namespace QM
open PySem QB
structure Stable (F : Form) (cs : List Nat) : Prop where
  len : cs.length = F.length
  word : ∀ i j, i < F.length → j < F.length → clsOf cs i = clsOf cs j → (stdOf F i).1 = (stdOf F j).1
  ways : ∀ i j, i < F.length → j < F.length → clsOf cs i = clsOf cs j → (stdOf F i).2.map (Option.map (clsOf cs)) = (stdOf F j).2.map (Option.map (clsOf cs))
theorem way_map (tags : List Str) (s : Std) (f : Option Nat → Option Nat) (hf : f none = none) (t : Str) : way tags (s.1, s.2.map f) t = f (way tags s t) := by
  unfold way
  show ((s.2.map f)[ixOf tags t]?).join = f ((s.2[ixOf tags t]?).join)
  rw [List.getElem?_map]
  cases s.2[ixOf tags t]? with
  | none => exact hf.symm
  | some x => rfl
theorem Stable.way {F : Form} {cs : List Nat} (S : Stable F cs) (tags : List Str) {i j : Nat} (hi : i < F.length) (hj : j < F.length) (h : clsOf cs i = clsOf cs j) (t : Str) : (way tags (stdOf F i) t).map (clsOf cs) = (way tags (stdOf F j) t).map (clsOf cs) := by
  have e := S.ways i j hi hj h
  have e1 := way_map tags (stdOf F i) (Option.map (clsOf cs)) rfl t
  have e2 := way_map tags (stdOf F j) (Option.map (clsOf cs)) rfl t
  rw [← e1, ← e2, e]
  rfl
theorem Stable.eff {tags : List Str} {F : Form} {cs : List Nat} (g : Good tags F) (S : Stable F cs) : ∀ (w : Word) (i j : Nat), i < F.length → j < F.length → clsOf cs i = clsOf cs j → eff tags F i w = eff tags F j w
  | [], i, j, hi, hj, h => by
    show wordOf F i = wordOf F j
    rw [wordOf_std hi, wordOf_std hj]
    exact S.word i j hi hj h
  | t :: w, i, j, hi, hj, h => by
    rw [eff_cons, eff_cons, wayAt_std hi, wayAt_std hj, wordOf_std hi, wordOf_std hj, S.word i j hi hj h]
    have e := S.way tags hi hj h t
    cases e1 : QM.way tags (stdOf F i) t with
    | none =>
      rw [e1] at e
      cases e2 : QM.way tags (stdOf F j) t with
      | none => rfl
      | some n =>
        rw [e2] at e
        cases e
    | some m =>
      rw [e1] at e
      cases e2 : QM.way tags (stdOf F j) t with
      | none =>
        rw [e2] at e
        cases e
      | some n =>
        rw [e2] at e
        have e : some (clsOf cs m) = some (clsOf cs n) := e
        exact Stable.eff g S w m n (g.std_to hi (way_mem e1)) (g.std_to hj (way_mem e2)) (Option.some.inj e)
theorem idxOf_pre' {l t : List Nat} {x : Nat} (h : x ∈ l) : (l ++ t).idxOf x = l.idxOf x := by
  rw [List.idxOf_append, if_pos h]
theorem newStd_pre {cs met t : List Nat} {s : Std} (h : ∀ n, some n ∈ s.2 → clsOf cs n ∈ met.map (clsOf cs)) : newStd cs (met ++ t) s = newStd cs met s := by
  unfold newStd
  congr 1
  refine List.map_congr_left fun w hw => ?_
  cases w with
  | none => rfl
  | some n =>
    show some ((((met ++ t).map (clsOf cs)).idxOf (clsOf cs n))) = some ((met.map (clsOf cs)).idxOf (clsOf cs n))
    rw [List.map_append, idxOf_pre' (h n hw)]
/-- what is told so far -/
structure OrdOf (F : Form) (cs met : List Nat) (told : Form) : Prop where
  m : Met F cs met
  zero : met[0]? = some 0
  le : told.length ≤ met.length
  at_ : ∀ i, i < told.length → told[i]? = some (newStd cs met (stdOf F (met.getD i 0)))
  in_ : ∀ i, i < told.length → ∀ n, some n ∈ (stdOf F (met.getD i 0)).2 → clsOf cs n ∈ met.map (clsOf cs)
theorem getD_pre {l t : List Nat} {i : Nat} (h : i < l.length) : (l ++ t).getD i 0 = l.getD i 0 := by
  rw [List.getD_eq_getElem?_getD, List.getD_eq_getElem?_getD, List.getElem?_append_left h]
theorem OrdOf.step {tags : List Str} {F : Form} {cs met : List Nat} {told : Form} (g : Good tags F) (o : OrdOf F cs met told) (h : told.length < met.length) :
    OrdOf F cs (visitAll cs met (stdOf F (met.getD told.length 0)).2) (told ++ [newStd cs (visitAll cs met (stdOf F (met.getD told.length 0)).2) (stdOf F (met.getD told.length 0))]) := by
  have hm : met.getD told.length 0 ∈ met := by
    rw [List.getD_eq_getElem?_getD, List.getElem?_eq_getElem h]
    exact List.getElem_mem h
  have hF := o.m.lt _ hm
  obtain ⟨t, e⟩ := visitAll_pre cs (stdOf F (met.getD told.length 0)).2 met
  have has := visitAll_has cs (stdOf F (met.getD told.length 0)).2 met
  have hmet := o.m.visitAll (ws := (stdOf F (met.getD told.length 0)).2) fun n hn => g.std_to hF hn
  generalize hM : visitAll cs met (stdOf F (met.getD told.length 0)).2 = M at e has hmet
  have gd : ∀ i, i < met.length → M.getD i 0 = met.getD i 0 := fun i hi => by rw [e]; exact getD_pre hi
  have in' : ∀ i, i < told.length + 1 → ∀ n, some n ∈ (stdOf F (M.getD i 0)).2 → clsOf cs n ∈ M.map (clsOf cs) := fun i hi n hn => by
    rw [gd i (by omega)] at hn
    by_cases hl : i < told.length
    · rw [e, List.map_append]
      exact List.mem_append_left _ (o.in_ i hl n hn)
    · have : i = told.length := by omega
      subst this
      exact has n hn
  refine ⟨hmet, ?_, ?_, fun i hi => ?_, fun i hi => ?_⟩
  · rw [e, List.getElem?_append_left (by omega)]
    exact o.zero
  · rw [List.length_append, e, List.length_append]
    show told.length + 1 ≤ _
    omega
  · rw [List.length_append] at hi
    have hi : i < told.length + 1 := hi
    rw [gd i (by omega)]
    by_cases hl : i < told.length
    · rw [List.getElem?_append_left hl, o.at_ i hl, e, newStd_pre (o.in_ i hl)]
    · have : i = told.length := by omega
      subst this
      rw [List.getElem?_append_right (Nat.le_refl _), Nat.sub_self]
      rfl
  · rw [List.length_append] at hi
    exact in' i hi
theorem orderLoop_ord {tags : List Str} {F : Form} {cs : List Nat} (g : Good tags F) : ∀ (f : Nat) (met : List Nat) (told : Form), OrdOf F cs met told → F.length + 1 ≤ told.length + f → ∃ met', OrdOf F cs met' (orderLoop F cs f met told) ∧ (orderLoop F cs f met told).length = met'.length
  | 0, met, told, o, h => by
    have := o.le
    have := o.m.len
    omega
  | f + 1, met, told, o, h => by
    unfold orderLoop
    by_cases hl : told.length < met.length
    · rw [if_pos hl]
      exact orderLoop_ord g f _ _ (o.step g hl) (by rw [List.length_append]; show _ ≤ told.length + 1 + f; omega)
    · rw [if_neg hl]
      exact ⟨met, o, by have := o.le; omega⟩
theorem inOrder_ord {tags : List Str} {F : Form} (g : Good tags F) (cs : List Nat) : ∃ met, OrdOf F cs met (inOrder F cs) ∧ (inOrder F cs).length = met.length := by
  refine orderLoop_ord g (F.length + 1) [0] [] ⟨⟨by simp, fun m hm => ?_⟩, rfl, by simp, fun i hi => absurd hi (Nat.not_lt_zero _), fun i hi => absurd hi (Nat.not_lt_zero _)⟩ (by simp)
  rw [List.mem_singleton.mp hm]
  exact g.pos
theorem OrdOf.std {F : Form} {cs met : List Nat} {R : Form} (o : OrdOf F cs met R) {i : Nat} (h : i < R.length) : stdOf R i = newStd cs met (stdOf F (met.getD i 0)) := by
  have e := o.at_ i h
  rw [stdOf_get h] at e
  exact Option.some.inj e
theorem OrdOf.lt {F : Form} {cs met : List Nat} {R : Form} (o : OrdOf F cs met R) {i : Nat} (h : i < R.length) : met.getD i 0 < F.length := by
  have h' : i < met.length := Nat.lt_of_lt_of_le h o.le
  refine o.m.lt _ ?_
  rw [List.getD_eq_getElem?_getD, List.getElem?_eq_getElem h']
  exact List.getElem_mem h'
theorem OrdOf.idx {F : Form} {cs met : List Nat} {R : Form} (o : OrdOf F cs met R) (hl : R.length = met.length) {n : Nat} (h : clsOf cs n ∈ met.map (clsOf cs)) : (met.map (clsOf cs)).idxOf (clsOf cs n) < R.length ∧ clsOf cs (met.getD ((met.map (clsOf cs)).idxOf (clsOf cs n)) 0) = clsOf cs n := by
  have hlt := List.idxOf_lt_length_of_mem h
  have hlt' : (met.map (clsOf cs)).idxOf (clsOf cs n) < met.length := by rwa [List.length_map] at hlt
  refine ⟨by omega, ?_⟩
  have e := List.getElem_idxOf hlt
  rw [List.getElem_map] at e
  rw [List.getD_eq_getElem?_getD, List.getElem?_eq_getElem hlt']
  exact e
theorem OrdOf.eff {tags : List Str} {F : Form} {cs met : List Nat} {R : Form} (g : Good tags F) (S : Stable F cs) (o : OrdOf F cs met R) (hl : R.length = met.length) : ∀ (w : Word) (i : Nat), i < R.length → eff tags R i w = eff tags F (met.getD i 0) w
  | [], i, hi => by
    show wordOf R i = wordOf F _
    rw [wordOf_std hi, wordOf_std (o.lt hi), o.std hi]
    rfl
  | t :: w, i, hi => by
    rw [eff_cons, eff_cons, wayAt_std hi, wayAt_std (o.lt hi), wordOf_std hi, wordOf_std (o.lt hi), o.std hi]
    have e := way_map tags (stdOf F (met.getD i 0)) (newWay cs met) rfl t
    rw [show newStd cs met (stdOf F (met.getD i 0)) = ((stdOf F (met.getD i 0)).1, (stdOf F (met.getD i 0)).2.map (newWay cs met)) from rfl, e]
    cases e1 : way tags (stdOf F (met.getD i 0)) t with
    | none => rfl
    | some n =>
      have hn := way_mem e1
      obtain ⟨h1, h2⟩ := o.idx hl (o.in_ i hi n hn)
      show QM.eff tags R ((met.map (clsOf cs)).idxOf (clsOf cs n)) w = QM.eff tags F n w
      rw [OrdOf.eff g S o hl w _ h1]
      exact S.eff g w _ _ (o.lt h1) (g.std_to (o.lt hi) hn) h2
theorem OrdOf.good {tags : List Str} {F : Form} {cs met : List Nat} {R : Form} (g : Good tags F) (o : OrdOf F cs met R) (hl : R.length = met.length) : Good tags R := by
  have key : ∀ s ∈ R, ∃ k, k < R.length ∧ s = stdOf R k := fun s hs => by
    obtain ⟨k, hk, e⟩ := List.mem_iff_getElem.mp hs
    have e' : R[k]? = some s := by rw [List.getElem?_eq_getElem hk, e]
    rw [stdOf_get hk] at e'
    exact ⟨k, hk, (Option.some.inj e').symm⟩
  have h0 : 0 < met.length := (List.getElem?_eq_some_iff.mp o.zero).1
  refine ⟨by omega, fun s hs => ?_, fun s hs n hn => ?_, by have := o.m.len; have := g.small; omega⟩
  · obtain ⟨k, hk, rfl⟩ := key s hs
    rw [o.std hk]
    show ((stdOf F _).2.map _).length = _
    rw [List.length_map]
    exact g.std_len (o.lt hk)
  · obtain ⟨k, hk, rfl⟩ := key s hs
    rw [o.std hk] at hn
    obtain ⟨x, hx, e⟩ := List.mem_map.mp (show some n ∈ (stdOf F (met.getD k 0)).2.map (newWay cs met) from hn)
    cases x with
    | none => cases e
    | some m =>
      have e : some ((met.map (clsOf cs)).idxOf (clsOf cs m)) = some n := e
      rw [← Option.some.inj e]
      exact (o.idx hl (o.in_ k hk m hx)).1
end QM
end

section
set_option linter.all false
set_option autoImplicit false
/-! Qleast3: the classes that are found stay. -/
namespace QM
open PySem QB L2
section
variable {α : Type} [DecidableEq α]
theorem numb_cls {ms : List α} {i : Nat} {x : α} (h : ms[i]? = some x) : clsOf (QD.numb ms) i = (QD.seenOf ms).idxOf x := by
  unfold clsOf QD.numb
  rw [List.getD_eq_getElem?_getD, List.getElem?_map, h]
  rfl
theorem idxOf_inj' {l : List α} {x y : α} (hx : x ∈ l) (hy : y ∈ l) (h : l.idxOf x = l.idxOf y) : x = y := by
  have h1 := List.getElem_idxOf (List.idxOf_lt_length_of_mem hx)
  have h2 := List.getElem_idxOf (List.idxOf_lt_length_of_mem hy)
  rw [← h1, ← h2]
  congr 1
theorem numb_inj {ms : List α} {i j : Nat} {x y : α} (hi : ms[i]? = some x) (hj : ms[j]? = some y) : clsOf (QD.numb ms) i = clsOf (QD.numb ms) j ↔ x = y := by
  rw [numb_cls hi, numb_cls hj]
  constructor
  · exact idxOf_inj' ((QD.mem_seenOf ms x).mpr (List.mem_of_getElem? hi)) ((QD.mem_seenOf ms y).mpr (List.mem_of_getElem? hj))
  · exact fun e => by rw [e]
theorem idxOf_nodup {l : List α} (nd : l.Nodup) {k : Nat} (h : k < l.length) : l.idxOf l[k] = k := by
  have hm : l[k] ∈ l := List.getElem_mem h
  have h1 := List.idxOf_lt_length_of_mem hm
  have h2 := List.getElem_idxOf h1
  exact (List.getElem_inj nd).mp h2
theorem maxOf_numb {ms : List α} (h : ms ≠ []) : maxOf (QD.numb ms) + 1 = (QD.seenOf ms).length := by
  have h0 : 0 < (QD.seenOf ms).length := by
    cases ms with
    | nil => exact absurd rfl h
    | cons x r => exact List.length_pos_of_mem ((QD.mem_seenOf (x :: r) x).mpr List.mem_cons_self)
  have hk : (QD.seenOf ms).length - 1 < (QD.seenOf ms).length := by omega
  have e : maxOf (QD.numb ms) = (QD.seenOf ms).length - 1 := by
    refine maxOf_eq ?_ fun x hx => by have := numb_lt hx; omega
    have hm : (QD.seenOf ms)[(QD.seenOf ms).length - 1] ∈ ms := (QD.mem_seenOf ms _).mp (List.getElem_mem hk)
    have := idxOf_nodup (QD.seenOf_nodup ms) hk
    exact List.mem_map.mpr ⟨_, hm, this⟩
  omega
end
theorem nodup_sub_len : ∀ (l m : List Nat), l.Nodup → (∀ x ∈ l, x ∈ m) → l.length ≤ m.length
  | [], _, _, _ => Nat.zero_le _
  | x :: l, m, nd, h => by
    rw [List.nodup_cons] at nd
    have hx := h x List.mem_cons_self
    have h1 := nodup_sub_len l (m.erase x) nd.2 fun y hy => by
      have hy' := h y (List.mem_cons_of_mem _ hy)
      exact (List.mem_erase_of_ne (fun e => nd.1 (by rw [← e]; exact hy))).mpr hy'
    have h2 := List.length_erase_of_mem hx
    have h3 := List.length_pos_of_mem hx
    rw [List.length_cons]
    omega
theorem inj_of_cover {L : List Nat} {k : Nat} (hl : L.length ≤ k) (hc : ∀ x, x < k → x ∈ L) {i j x : Nat} (hi : L[i]? = some x) (hj : L[j]? = some x) : i = j := by
  rcases Nat.lt_trichotomy i j with h | h | h
  · exfalso
    have key : ∀ (i j : Nat), i ≠ j → L[i]? = some x → L[j]? = some x → False := fun i j hne hi hj => by
      have hjl : j < L.length := (List.getElem?_eq_some_iff.mp hj).1
      have h1 := nodup_sub_len (List.range k) (L.eraseIdx j) List.nodup_range fun y hy => by
        have hy' := hc y (List.mem_range.mp hy)
        obtain ⟨p, hp, e⟩ := List.mem_iff_getElem.mp hy'
        have e' : L[p]? = some y := by rw [List.getElem?_eq_getElem hp, e]
        rw [List.mem_eraseIdx_iff_getElem?]
        by_cases hpj : p = j
        · subst hpj
          rw [hj] at e'
          exact ⟨i, hne, by rw [hi]; exact e'⟩
        · exact ⟨p, hpj, e'⟩
      rw [List.length_range, List.length_eraseIdx, if_pos hjl] at h1
      omega
    exact key i j (by omega) hi hj
  · exact h
  · exfalso
    have key : ∀ (i j : Nat), i ≠ j → L[i]? = some x → L[j]? = some x → False := fun i j hne hi hj => by
      have hjl : j < L.length := (List.getElem?_eq_some_iff.mp hj).1
      have h1 := nodup_sub_len (List.range k) (L.eraseIdx j) List.nodup_range fun y hy => by
        have hy' := hc y (List.mem_range.mp hy)
        obtain ⟨p, hp, e⟩ := List.mem_iff_getElem.mp hy'
        have e' : L[p]? = some y := by rw [List.getElem?_eq_getElem hp, e]
        rw [List.mem_eraseIdx_iff_getElem?]
        by_cases hpj : p = j
        · subst hpj
          rw [hj] at e'
          exact ⟨i, hne, by rw [hi]; exact e'⟩
        · exact ⟨p, hpj, e'⟩
      rw [List.length_range, List.length_eraseIdx, if_pos hjl] at h1
      omega
    exact key i j (by omega) hi hj
/-- the class in a key -/
def keyCls : NestedKey → Nat
  | .tup (.num i :: _) => i.toNat
  | _ => 0
theorem partKeys_get {cs : List Nat} {F : Form} (hl : cs.length = F.length) {i : Nat} (hi : i < F.length) : (partKeys cs F)[i]? = some (partKey cs (clsOf cs i, stdOf F i)) := by
  have e1 : cs[i]? = some (clsOf cs i) := by
    unfold clsOf
    rw [List.getD_eq_getElem?_getD, List.getElem?_eq_getElem (by omega)]
    rfl
  have ez : (cs.zip F)[i]? = some (clsOf cs i, stdOf F i) := by
    rw [List.getElem?_zip_eq_some]
    exact ⟨e1, stdOf_get hi⟩
  unfold partKeys
  rw [List.getElem?_map, ez]
  rfl
theorem partKey_eq {cs : List Nat} {p q : Nat × Std} (h : partKey cs p = partKey cs q) : p.1 = q.1 ∧ p.2.2.map (wayNum cs) = q.2.2.map (wayNum cs) := by
  unfold partKey at h
  injection h with h
  injection h with h1 h2
  injection h1 with h1
  injection h2 with h2 _
  injection h2 with h2
  exact ⟨by omega, h2⟩
theorem wayNum_eq {cs : List Nat} {x y : Option Nat} (h : wayNum cs x = wayNum cs y) : x.map (clsOf cs) = y.map (clsOf cs) := by
  cases x with
  | none =>
    cases y with
    | none => rfl
    | some n =>
      have h : NestedKey.num (-1) = .num ((cs.getD n 0 : Nat) : Int) := h
      injection h with h
      omega
  | some m =>
    cases y with
    | none =>
      have h : NestedKey.num ((cs.getD m 0 : Nat) : Int) = .num (-1) := h
      injection h with h
      omega
    | some n =>
      have h : NestedKey.num ((cs.getD m 0 : Nat) : Int) = .num ((cs.getD n 0 : Nat) : Int) := h
      injection h with h
      show some (cs.getD m 0) = some (cs.getD n 0)
      congr 1
      omega
theorem wayNum_of {cs : List Nat} {x y : Option Nat} (h : x.map (clsOf cs) = y.map (clsOf cs)) : wayNum cs x = wayNum cs y := by
  cases x with
  | none =>
    cases y with
    | none => rfl
    | some n => cases h
  | some m =>
    cases y with
    | none => cases h
    | some n =>
      have h : some (cs.getD m 0) = some (cs.getD n 0) := h
      show NestedKey.num ((cs.getD m 0 : Nat) : Int) = .num ((cs.getD n 0 : Nat) : Int)
      rw [Option.some.inj h]
theorem part_fine {cs : List Nat} {F : Form} (hl : cs.length = F.length) {i j : Nat} (hi : i < F.length) (hj : j < F.length) (h : clsOf (part cs F) i = clsOf (part cs F) j) : clsOf cs i = clsOf cs j ∧ (stdOf F i).2.map (Option.map (clsOf cs)) = (stdOf F j).2.map (Option.map (clsOf cs)) := by
  obtain ⟨h1, h2⟩ := partKey_eq ((numb_inj (partKeys_get hl hi) (partKeys_get hl hj)).mp h)
  refine ⟨h1, ?_⟩
  have h2 : (stdOf F i).2.map (wayNum cs) = (stdOf F j).2.map (wayNum cs) := h2
  generalize (stdOf F i).2 = a at h2
  generalize (stdOf F j).2 = b at h2
  induction a generalizing b with
  | nil =>
    cases b with
    | nil => rfl
    | cons y b => cases h2
  | cons x a ih =>
    cases b with
    | nil => cases h2
    | cons y b =>
      rw [List.map_cons, List.map_cons] at h2
      injection h2 with h3 h4
      rw [List.map_cons, List.map_cons, wayNum_eq h3, ih b h4]
theorem part_coarse {α : Type} [DecidableEq α] {ms : List α} {F : Form} (hl : ms.length = F.length) (hc : (QD.seenOf (partKeys (QD.numb ms) F)).length ≤ (QD.seenOf ms).length) {i j : Nat} (hi : i < F.length) (hj : j < F.length) (h : clsOf (QD.numb ms) i = clsOf (QD.numb ms) j) :
    clsOf (part (QD.numb ms) F) i = clsOf (part (QD.numb ms) F) j := by
  have hl' : (QD.numb ms).length = F.length := by rw [QD.numb_len, hl]
  have gi := partKeys_get hl' hi
  have gj := partKeys_get hl' hj
  refine (numb_inj gi gj).mpr ?_
  have mi := (QD.mem_seenOf _ _).mpr (List.mem_of_getElem? gi)
  have mj := (QD.mem_seenOf _ _).mpr (List.mem_of_getElem? gj)
  obtain ⟨a, ha, ea⟩ := List.mem_iff_getElem.mp mi
  obtain ⟨b, hb, eb⟩ := List.mem_iff_getElem.mp mj
  have kc : ∀ p : Nat × Std, keyCls (partKey (QD.numb ms) p) = p.1 := fun p => by
    show ((p.1 : Int)).toNat = p.1
    omega
  have hcov : ∀ x, x < (QD.seenOf ms).length → x ∈ (QD.seenOf (partKeys (QD.numb ms) F)).map keyCls := fun x hx => by
    have hm : (QD.seenOf ms)[x] ∈ ms := (QD.mem_seenOf ms _).mp (List.getElem_mem hx)
    obtain ⟨p, hp, ep⟩ := List.mem_iff_getElem.mp hm
    have ep' : ms[p]? = some (QD.seenOf ms)[x] := by rw [List.getElem?_eq_getElem hp, ep]
    have e1 := numb_cls ep'
    rw [idxOf_nodup (QD.seenOf_nodup ms) hx] at e1
    have gp := partKeys_get hl' (show p < F.length by omega)
    refine List.mem_map.mpr ⟨_, (QD.mem_seenOf _ _).mpr (List.mem_of_getElem? gp), ?_⟩
    rw [kc]
    exact e1
  have e : a = b := inj_of_cover (L := (QD.seenOf (partKeys (QD.numb ms) F)).map keyCls) (k := (QD.seenOf ms).length) (by rw [List.length_map]; exact hc) hcov (x := clsOf (QD.numb ms) i)
    (by rw [List.getElem?_map, List.getElem?_eq_getElem ha, ea]; show some _ = _; rw [kc]) (by rw [List.getElem?_map, List.getElem?_eq_getElem hb, eb]; show some _ = _; rw [kc]; exact congrArg some h.symm)
  subst e
  rw [← ea, ← eb]
theorem wordKey_eq {s s' : Std} (h : wordKey s = wordKey s') : s.1 = s'.1 := by
  unfold wordKey at h
  injection h with h
  exact List.map_inj_right (fun x y e => by injection e) |>.mp h
theorem map_up {a b : Ways} {f g : Option Nat → Option Nat} {P : Option Nat → Prop} (ha : ∀ x ∈ a, P x) (hb : ∀ x ∈ b, P x) (up : ∀ x y, P x → P y → f x = f y → g x = g y) (h : a.map f = b.map f) : a.map g = b.map g := by
  induction a generalizing b with
  | nil =>
    cases b with
    | nil => rfl
    | cons y b => cases h
  | cons x a ih =>
    cases b with
    | nil => cases h
    | cons y b =>
      rw [List.map_cons, List.map_cons] at h
      injection h with h3 h4
      rw [List.map_cons, List.map_cons, up x y (ha x List.mem_cons_self) (hb y List.mem_cons_self) h3, ih (fun z hz => ha z (List.mem_cons_of_mem _ hz)) (fun z hz => hb z (List.mem_cons_of_mem _ hz)) h4]
structure AInv (F : Form) (many : Nat) (cs : List Nat) : Prop where
  num : ∃ ms : List NestedKey, cs = QD.numb ms ∧ ms.length = F.length
  word : ∀ i j, i < F.length → j < F.length → clsOf cs i = clsOf cs j → (stdOf F i).1 = (stdOf F j).1
  le : many ≤ F.length
  prev : many = 0 ∨ ∃ ms' : List NestedKey, ms'.length = F.length ∧ cs = part (QD.numb ms') F ∧ (QD.seenOf ms').length = many
theorem alikeLoop_stable {tags : List Str} {F : Form} (g : Good tags F) (hF : 0 < F.length) : ∀ (f many : Nat) (cs : List Nat), AInv F many cs → F.length + 1 ≤ f + many → Stable F (alikeLoop F f many cs)
  | 0, many, cs, a, h => by
    have := a.le
    omega
  | f + 1, many, cs, a, h => by
    obtain ⟨ms, hcs, hml⟩ := a.num
    have hne : ms ≠ [] := fun e => by
      rw [e] at hml
      have : (0 : Nat) = F.length := hml
      omega
    have hmax := maxOf_numb hne
    have hlen : cs.length = F.length := by rw [hcs, QD.numb_len, hml]
    unfold alikeLoop
    by_cases hm : many ≤ maxOf cs
    · rw [if_pos hm]
      refine alikeLoop_stable g hF f (maxOf cs + 1) (part cs F) ⟨⟨partKeys cs F, rfl, partKeys_len hlen⟩, fun i j hi hj e => ?_, ?_, .inr ⟨ms, hml, by rw [hcs], by rw [hcs]; exact hmax.symm⟩⟩ (by omega)
      · exact a.word i j hi hj (part_fine hlen hi hj e).1
      · rw [hcs, hmax]
        have := QD.seenOf_len ms
        omega
    · rw [if_neg hm]
      rcases a.prev with h0 | ⟨ms', hl', hp, hc⟩
      · omega
      · have hl2 : (QD.numb ms').length = F.length := by rw [QD.numb_len, hl']
        have hcount : (QD.seenOf (partKeys (QD.numb ms') F)).length ≤ (QD.seenOf ms').length := by
          have hpl : partKeys (QD.numb ms') F ≠ [] := fun e => by
            have := partKeys_len hl2
            rw [e] at this
            have : (0 : Nat) = F.length := this
            omega
          have := maxOf_numb hpl
          have e : maxOf cs = maxOf (QD.numb (partKeys (QD.numb ms') F)) := by rw [hp]; rfl
          omega
        refine ⟨hlen, a.word, fun i j hi hj e => ?_⟩
        rw [hp] at e ⊢
        obtain ⟨h1, h2⟩ := part_fine hl2 hi hj e
        have up : ∀ x y : Option Nat, (∀ n, x = some n → n < F.length) → (∀ n, y = some n → n < F.length) → x.map (clsOf (QD.numb ms')) = y.map (clsOf (QD.numb ms')) → x.map (clsOf (part (QD.numb ms') F)) = y.map (clsOf (part (QD.numb ms') F)) := fun x y hx hy e => by
          cases x with
          | none =>
            cases y with
            | none => rfl
            | some n => cases e
          | some m =>
            cases y with
            | none => cases e
            | some n =>
              have e : some (clsOf (QD.numb ms') m) = some (clsOf (QD.numb ms') n) := e
              show some _ = some _
              rw [part_coarse hl' hcount (hx m rfl) (hy n rfl) (Option.some.inj e)]
        exact map_up (P := fun x => ∀ n, x = some n → n < F.length) (fun x hx n e => g.std_to hi (e ▸ hx)) (fun x hx n e => g.std_to hj (e ▸ hx)) up h2
theorem alike_stable {tags : List Str} {F : Form} (g : Good tags F) : Stable F (alike F) := by
  refine alikeLoop_stable g g.pos (F.length + 1) 0 _ ⟨⟨wordKeys F, rfl, by simp [wordKeys]⟩, fun i j hi hj e => ?_, Nat.zero_le _, .inl rfl⟩ (Nat.le_refl _)
  have gi : (wordKeys F)[i]? = some (wordKey (stdOf F i)) := by
    unfold wordKeys
    rw [List.getElem?_map, stdOf_get hi]
    rfl
  have gj : (wordKeys F)[j]? = some (wordKey (stdOf F j)) := by
    unfold wordKeys
    rw [List.getElem?_map, stdOf_get hj]
    rfl
  exact wordKey_eq ((numb_inj gi gj).mp e)
/-- the least form makes what the form makes -/
theorem least_ord {tags : List Str} {F : Form} (g : Good tags F) : ∃ met, OrdOf (needless tags F) (alike (needless tags F)) met (least tags F) ∧ (least tags F).length = met.length := inOrder_ord (needless_good g) _
theorem least_eff {tags : List Str} {F : Form} (g : Good tags F) {w : Word} (hw : ∀ t ∈ w, t ∈ tags) : eff tags (least tags F) 0 w = eff tags F 0 w := by
  obtain ⟨met, o, hl⟩ := least_ord g
  have gN := needless_good g
  have h0 := o.zero
  have h1 : 0 < met.length := (List.getElem?_eq_some_iff.mp h0).1
  rw [o.eff gN (alike_stable gN) hl w 0 (by omega)]
  have e : met.getD 0 0 = 0 := by rw [List.getD_eq_getElem?_getD, h0]; rfl
  rw [e]
  exact needless_eff g g.pos hw
theorem least_make {tags : List Str} {F : Form} (g : Good tags F) {w : Word} (hw : ∀ t ∈ w, t ∈ tags) : make tags (least tags F) w = make tags F w := by
  rw [make_eff, make_eff]
  exact least_eff g hw
theorem least_good {tags : List Str} {F : Form} (g : Good tags F) : Good tags (least tags F) := by
  obtain ⟨met, o, hl⟩ := least_ord g
  exact o.good (needless_good g) hl
theorem least_len {tags : List Str} {F : Form} (g : Good tags F) : (least tags F).length ≤ F.length := by
  obtain ⟨met, o, hl⟩ := least_ord g
  have := o.m.len
  rw [needless_length g] at this
  omega
theorem least_word {tags : List Str} {F : Form} (g : Good tags F) {s : Std} (h : s ∈ least tags F) : ∃ s' ∈ F, s.1 = s'.1 := by
  obtain ⟨met, o, hl⟩ := least_ord g
  obtain ⟨k, hk, e⟩ := List.mem_iff_getElem.mp h
  have e' : (least tags F)[k]? = some s := by rw [List.getElem?_eq_getElem hk, e]
  rw [stdOf_get hk, o.std hk] at e'
  have hm := o.lt hk
  rw [needless_length g] at hm
  refine ⟨stdOf F (met.getD k 0), mem_of (stdOf_get hm), ?_⟩
  rw [← Option.some.inj e']
  exact ((needInv g).p.std hm).1
end QM
end

section
set_option linter.all false
set_option autoImplicit false
/-! Qleast4: a least form has no needless way. -/
namespace QM
open PySem QB L2
def allNone (s : Std) : Bool := s.2.all Option.isNone
structure NInv (tags : List Str) (F : Form) (P : List Nat) (st : Form × List Bool) : Prop where
  p : Pruned tags F st
  s : ∀ k ∈ P, st.2.getD k false = allNone (stdOf st.1 k)
  d : ∀ k ∈ P, ∀ t ∈ tags, ∀ m, way tags (stdOf st.1 k) t = some m → (stdOf F m).1 = (stdOf F k).1 ++ [t] → m ∈ P ∧ allNone (stdOf st.1 m) = false
theorem stdOf_set {F : Form} {k j : Nat} {s : Std} (h : k < F.length) : stdOf (F.set k s) j = if k = j then s else stdOf F j := by
  unfold stdOf
  rw [List.getD_eq_getElem?_getD, List.getD_eq_getElem?_getD]
  by_cases e : k = j
  · subst e
    rw [List.getElem?_set_self h, if_pos rfl]
    rfl
  · rw [List.getElem?_set_ne e, if_neg e]
theorem NInv.step {tags : List Str} {F : Form} {P : List Nat} {st : Form × List Bool} (g : Good tags F) (i : NInv tags F P st) {k : Nat} (hk : k < F.length) (hP : k ∉ P) (long : ∀ m, m < F.length → (stdOf F k).1.length < (stdOf F m).1.length → m ∈ P) : NInv tags F (P ++ [k]) (needStep tags F st k) := by
  have p' := i.p.step g hk
  have ss := i.p.std hk
  have gl := g.std_len hk
  have e1 : ∀ j, stdOf (needStep tags F st k).1 j = if k = j then pruneStd tags F st.2 (stdOf st.1 k) else stdOf st.1 j := fun j => stdOf_set (by rw [i.p.len]; exact hk)
  have e2 : ∀ j, (needStep tags F st k).2.getD j false = if k = j then allNone (pruneStd tags F st.2 (stdOf st.1 k)) else st.2.getD j false := fun j => by
    show (st.2.set k _).getD j false = _
    rw [List.getD_eq_getElem?_getD, List.getD_eq_getElem?_getD]
    by_cases e : k = j
    · subst e
      rw [List.getElem?_set_self (by rw [i.p.lenS]; exact hk), if_pos rfl]
      rfl
    · rw [List.getElem?_set_ne e, if_neg e]
  refine ⟨p', fun j hj => ?_, fun j hj t ht m hm hw => ?_⟩
  · rw [e1, e2]
    by_cases e : k = j
    · rw [if_pos e, if_pos e]
    · rw [if_neg e, if_neg e]
      rcases List.mem_append.mp hj with h | h
      · exact i.s j h
      · exact absurd (List.mem_singleton.mp h).symm e
  · rw [e1] at hm ⊢
    by_cases e : k = j
    · subst e
      rw [if_pos rfl, way_prune (by rw [ss.2.1, gl]) ht, ss.1] at hm
      have hw0 := pruneWay_some hm
      have hmF : m < F.length := g.std_to hk (ss.2.2 m (way_mem hw0))
      have hmP := long m hmF (by rw [hw, List.length_append]; show _ < _ + 1; omega)
      have hne : k ≠ m := fun e => hP (e ▸ hmP)
      rw [if_neg hne]
      refine ⟨List.mem_append_left _ hmP, ?_⟩
      rw [← i.s m hmP]
      rw [hw0] at hm
      have hm : (if isNeedless F st.2 (stdOf F k).1 t m = true then none else some m) = some m := hm
      cases hS : st.2.getD m false with
      | false => rfl
      | true =>
        have : isNeedless F st.2 (stdOf F k).1 t m = true := by
          unfold isNeedless
          rw [hS, decide_eq_true hw]
          rfl
        rw [if_pos this] at hm
        cases hm
    · rw [if_neg e] at hm
      rcases List.mem_append.mp hj with h | h
      · obtain ⟨h1, h2⟩ := i.d j h t ht m hm hw
        have hne : k ≠ m := fun e => hP (e ▸ h1)
        rw [if_neg hne]
        exact ⟨List.mem_append_left _ h1, h2⟩
      · exact absurd (List.mem_singleton.mp h).symm e
theorem NInv.fold {tags : List Str} {F : Form} (g : Good tags F) : ∀ (ks P : List Nat) (st : Form × List Bool), NInv tags F P st → (P ++ ks).Nodup → (∀ k, k < F.length ↔ k ∈ P ++ ks) → (ks.Pairwise fun i j => keyOf F i ≤ keyOf F j) → NInv tags F (P ++ ks) (ks.foldl (needStep tags F) st)
  | [], P, st, i, _, _, _ => by rw [List.append_nil]; exact i
  | k :: ks, P, st, i, nd, mem, pw => by
    rw [List.pairwise_cons] at pw
    have hk : k < F.length := (mem k).mpr (List.mem_append_right _ List.mem_cons_self)
    have nd' := List.nodup_append.mp nd
    have hP : k ∉ P := fun h => nd'.2.2 k h k List.mem_cons_self rfl
    have i' := i.step g hk hP fun m hm hl => by
      rcases List.mem_append.mp ((mem m).mp hm) with h | h
      · exact h
      · rcases List.mem_cons.mp h with h | h
        · rw [h] at hl
          omega
        · have := pw.1 m h
          unfold keyOf at this
          omega
    have e : P ++ k :: ks = (P ++ [k]) ++ ks := by simp
    rw [e] at nd mem ⊢
    exact NInv.fold g ks (P ++ [k]) (needStep tags F st k) i' nd mem pw.2
theorem needless_none {tags : List Str} {F : Form} (g : Good tags F) {k m : Nat} {t : Str} (hk : k < F.length) (ht : t ∈ tags) (h : way tags (stdOf (needless tags F) k) t = some m) (hw : (stdOf F m).1 = (stdOf F k).1 ++ [t]) : allNone (stdOf (needless tags F) m) = false := by
  have pm : (byLen F).Perm (List.range F.length) := List.mergeSort_perm _ _
  have pw : (byLen F).Pairwise fun i j => keyOf F i ≤ keyOf F j := by
    have := List.pairwise_mergeSort (le := fun i j => decide (keyOf F i ≤ keyOf F j)) (fun a b c h1 h2 => decide_eq_true (Int.le_trans (of_decide_eq_true h1) (of_decide_eq_true h2)))
      (fun a b => by
        rw [Bool.or_eq_true]
        rcases Int.le_total (keyOf F a) (keyOf F b) with h | h
        · exact .inl (decide_eq_true h)
        · exact .inr (decide_eq_true h)) (List.range F.length)
    exact this.imp fun h => of_decide_eq_true h
  have i := NInv.fold g (byLen F) [] (F, List.replicate F.length false) ⟨Pruned.start tags F, (fun _ h => nomatch h), fun _ h => nomatch h⟩ (pm.nodup_iff.mpr List.nodup_range) (fun k => by
    rw [List.nil_append, pm.mem_iff, List.mem_range]) pw
  rw [List.nil_append] at i
  have hkm : k ∈ byLen F := by rw [pm.mem_iff, List.mem_range]; exact hk
  exact (i.d k hkm t ht m h hw).2
theorem allNone_of {a b : Std} {f : Nat → Nat} (h : a.2.map (Option.map f) = b.2.map (Option.map f)) : allNone a = allNone b := by
  have key : ∀ s : Std, allNone s = (s.2.map (Option.map f)).all Option.isNone := fun s => by
    unfold allNone
    rw [List.all_map]
    congr 1
    funext x
    cases x <;> rfl
  rw [key, key, h]
theorem least_none {tags : List Str} {F : Form} (g : Good tags F) {i j : Nat} {t : Str} (hi : i < (least tags F).length) (ht : t ∈ tags) (h : way tags (stdOf (least tags F) i) t = some j) (hw : (stdOf (least tags F) j).1 = (stdOf (least tags F) i).1 ++ [t]) : allNone (stdOf (least tags F) j) = false := by
  obtain ⟨met, o, hl⟩ := least_ord g
  have gN := needless_good g
  have S := alike_stable gN
  have nl := needless_length g
  have p := (needInv g).p
  rw [o.std hi] at h hw
  have e := way_map tags (stdOf (needless tags F) (met.getD i 0)) (newWay (alike (needless tags F)) met) rfl t
  have h : way tags ((stdOf (needless tags F) (met.getD i 0)).1, (stdOf (needless tags F) (met.getD i 0)).2.map (newWay (alike (needless tags F)) met)) t = some j := h
  rw [e] at h
  cases e1 : way tags (stdOf (needless tags F) (met.getD i 0)) t with
  | none =>
    rw [e1] at h
    cases h
  | some m =>
    rw [e1] at h
    have h : some ((met.map (clsOf (alike (needless tags F)))).idxOf (clsOf (alike (needless tags F)) m)) = some j := h
    have hj := (Option.some.inj h).symm
    have hm := way_mem e1
    obtain ⟨h1, h2⟩ := o.idx hl (o.in_ i hi m hm)
    rw [← hj] at h1 h2
    have hmN := gN.std_to (o.lt hi) hm
    have hjN := o.lt h1
    rw [o.std h1] at hw ⊢
    have hw : (stdOf (needless tags F) (met.getD j 0)).1 = (stdOf (needless tags F) (met.getD i 0)).1 ++ [t] := hw
    rw [S.word _ _ hjN hmN h2] at hw
    have e3 : allNone (newStd (alike (needless tags F)) met (stdOf (needless tags F) (met.getD j 0))) = allNone (stdOf (needless tags F) (met.getD j 0)) := by
      unfold allNone newStd
      rw [List.all_map]
      congr 1
      funext x
      cases x <;> rfl
    rw [e3, allNone_of (S.ways _ _ hjN hmN h2)]
    have hiF : met.getD i 0 < F.length := by rw [← nl]; exact o.lt hi
    refine needless_none g hiF ht e1 ?_
    have w1 := (p.std (show m < F.length by omega)).1
    have w2 := (p.std hiF).1
    rw [← w1, ← w2]
    exact hw
theorem needless_same {tags : List Str} {R : Form} (g : Good tags R) (nd : tags.Nodup) (no : ∀ i j t, i < R.length → t ∈ tags → way tags (stdOf R i) t = some j → (stdOf R j).1 = (stdOf R i).1 ++ [t] → allNone (stdOf R j) = false) : needless tags R = R := by
  have all : ∀ (ks : List Nat) (st : Form × List Bool), st.1 = R → st.2.length = R.length → (∀ k, k < R.length → st.2.getD k false = true → allNone (stdOf R k) = true) → (∀ k ∈ ks, k < R.length) → (ks.foldl (needStep tags R) st).1 = R := by
    intro ks
    induction ks with
    | nil => exact fun st h _ _ _ => h
    | cons k ks ih =>
      intro st h1 hl h2 hk
      have hkR := hk k List.mem_cons_self
      have ps : pruneStd tags R st.2 (stdOf R k) = stdOf R k := by
        have e : pruneWays tags R st.2 (stdOf R k) = (stdOf R k).2 := by
          refine List.ext_getElem? fun q => ?_
          by_cases hq : q < tags.length
          · have e1 : tags[q]? = some tags[q] := List.getElem?_eq_getElem hq
            have hq2 : q < (stdOf R k).2.length := by rw [g.std_len hkR]; exact hq
            have e2 : (stdOf R k).2[q]? = some (stdOf R k).2[q] := List.getElem?_eq_getElem hq2
            rw [pruneWays_get e1 e2, e2]
            generalize (stdOf R k).2[q] = x at e2
            cases x with
            | none => rfl
            | some n =>
              have hn : n < R.length := g.std_to hkR (List.mem_of_getElem? e2)
              have hwy : way tags (stdOf R k) tags[q] = some n := by
                unfold way ixOf
                rw [idxOf_nodup nd hq, e2]
                rfl
              show some (if isNeedless R st.2 (stdOf R k).1 tags[q] n = true then none else some n) = some (some n)
              have hno : ¬ isNeedless R st.2 (stdOf R k).1 tags[q] n = true := fun hd => by
                unfold isNeedless at hd
                rw [Bool.and_eq_true] at hd
                have a1 := h2 n hn hd.1
                have a2 := no k n _ hkR (List.getElem_mem hq) hwy (of_decide_eq_true hd.2)
                rw [a1] at a2
                cases a2
              rw [if_neg hno]
          · rw [List.getElem?_eq_none (by rw [pruneWays_len (g.std_len hkR)]; omega), List.getElem?_eq_none (by rw [g.std_len hkR]; omega)]
        unfold pruneStd
        rw [e]
      refine ih (needStep tags R st k) ?_ (by show (st.2.set k _).length = _; rw [List.length_set, hl]) (fun j hj hs => ?_) fun j hj => hk j (List.mem_cons_of_mem _ hj)
      · show st.1.set k (pruneStd tags R st.2 (stdOf st.1 k)) = R
        rw [h1, ps]
        refine List.ext_getElem? fun q => ?_
        by_cases e : k = q
        · subst e
          rw [List.getElem?_set_self hkR, stdOf_get hkR]
        · rw [List.getElem?_set_ne e]
      · have hs : (st.2.set k (allNone (pruneStd tags R st.2 (stdOf st.1 k)))).getD j false = true := hs
        rw [h1, ps, List.getD_eq_getElem?_getD] at hs
        by_cases e : k = j
        · subst e
          rw [List.getElem?_set_self (by omega)] at hs
          exact hs
        · rw [List.getElem?_set_ne e, ← List.getD_eq_getElem?_getD] at hs
          exact h2 j hj hs
  refine all (byLen R) (R, List.replicate R.length false) rfl List.length_replicate (fun k hk h => ?_) fun k hk => byLen_lt hk
  have h : (List.replicate R.length false).getD k false = true := h
  rw [List.getD_eq_getElem?_getD, List.getElem?_replicate, if_pos hk] at h
  cases h
end QM
end

section
set_option linter.all false
set_option autoImplicit false
/-! Qleast5: the least form of a least form is itself. -/
namespace QM
open PySem QB L2
theorem map_up2 {β γ : Type} {a b : Ways} {f : Option Nat → β} {g : Option Nat → γ} {P : Option Nat → Prop} (ha : ∀ x ∈ a, P x) (hb : ∀ x ∈ b, P x) (up : ∀ x y, P x → P y → f x = f y → g x = g y) (h : a.map f = b.map f) : a.map g = b.map g := by
  induction a generalizing b with
  | nil =>
    cases b with
    | nil => rfl
    | cons y b => cases h
  | cons x a ih =>
    cases b with
    | nil => cases h
    | cons y b =>
      rw [List.map_cons, List.map_cons] at h
      injection h with h3 h4
      rw [List.map_cons, List.map_cons, up x y (ha x List.mem_cons_self) (hb y List.mem_cons_self) h3, ih (fun z hz => ha z (List.mem_cons_of_mem _ hz)) (fun z hz => hb z (List.mem_cons_of_mem _ hz)) h4]
def Resp (F : Form) (E : Nat → Nat → Prop) (cs : List Nat) : Prop := ∀ a b, a < F.length → b < F.length → E a b → clsOf cs a = clsOf cs b
theorem alike_coarse {F : Form} {E : Nat → Nat → Prop} (hw : ∀ a b, a < F.length → b < F.length → E a b → (stdOf F a).1 = (stdOf F b).1)
    (hE : ∀ cs, Resp F E cs → ∀ a b, a < F.length → b < F.length → E a b → (stdOf F a).2.map (Option.map (clsOf cs)) = (stdOf F b).2.map (Option.map (clsOf cs))) : Resp F E (alike F) := by
  have loop : ∀ (f many : Nat) (cs : List Nat), cs.length = F.length → Resp F E cs → Resp F E (alikeLoop F f many cs) := by
    intro f
    induction f with
    | zero => exact fun _ _ _ r => r
    | succ f ih =>
      intro many cs hl r
      unfold alikeLoop
      by_cases hm : many ≤ maxOf cs
      · rw [if_pos hm]
        refine ih _ _ (part_len hl) fun a b ha hb e => ?_
        refine (numb_inj (partKeys_get hl ha) (partKeys_get hl hb)).mpr ?_
        have e1 := r a b ha hb e
        have e2 : (stdOf F a).2.map (wayNum cs) = (stdOf F b).2.map (wayNum cs) := map_up2 (P := fun _ => True) (fun _ _ => trivial) (fun _ _ => trivial) (fun x y _ _ h => wayNum_of h) (hE cs r a b ha hb e)
        unfold partKey
        show NestedKey.tup [.num (clsOf cs a : Int), .tup ((stdOf F a).2.map (wayNum cs))] = .tup [.num (clsOf cs b : Int), .tup ((stdOf F b).2.map (wayNum cs))]
        rw [e1, e2]
      · rw [if_neg hm]
        exact r
  refine loop _ _ _ (by rw [QD.numb_len]; exact List.length_map _) fun a b ha hb e => ?_
  have gi : (wordKeys F)[a]? = some (wordKey (stdOf F a)) := by
    unfold wordKeys
    rw [List.getElem?_map, stdOf_get ha]
    rfl
  have gj : (wordKeys F)[b]? = some (wordKey (stdOf F b)) := by
    unfold wordKeys
    rw [List.getElem?_map, stdOf_get hb]
    rfl
  refine (numb_inj gi gj).mpr ?_
  unfold wordKey
  rw [hw a b ha hb e]
/-- the standings of a form put in order are apart -/
theorem ord_apart {tags : List Str} {F : Form} {met : List Nat} {R : Form} (g : Good tags F) (o : OrdOf F (alike F) met R) (hl : R.length = met.length) : ∀ i j, i < R.length → j < R.length → clsOf (alike R) i = clsOf (alike R) j → i = j := by
  have S := alike_stable g
  have gR := o.good g hl
  have S' := alike_stable gR
  have key : Resp F (fun a b => ∃ i j, i < R.length ∧ j < R.length ∧ clsOf (alike R) i = clsOf (alike R) j ∧ clsOf (alike F) a = clsOf (alike F) (met.getD i 0) ∧ clsOf (alike F) b = clsOf (alike F) (met.getD j 0)) (alike F) := by
    refine alike_coarse (fun a b ha hb e => ?_) fun cs r a b ha hb e => ?_
    · obtain ⟨i, j, hi, hj, h, h1, h2⟩ := e
      rw [S.word a _ ha (o.lt hi) h1, S.word b _ hb (o.lt hj) h2]
      have e := S'.word i j hi hj h
      rw [o.std hi, o.std hj] at e
      exact e
    · obtain ⟨i, j, hi, hj, h, h1, h2⟩ := e
      -- the same class of F, met
      have met_in : ∀ i, i < R.length → ∀ a, a < F.length → clsOf (alike F) a = clsOf (alike F) (met.getD i 0) → ∀ x ∈ (stdOf F a).2, ∀ m, x = some m → m < F.length ∧ clsOf (alike F) m ∈ met.map (clsOf (alike F)) := fun i hi a ha h1 x hx m e => by
        subst e
        refine ⟨g.std_to ha hx, ?_⟩
        have e := S.ways a _ ha (o.lt hi) h1
        have : some (clsOf (alike F) m) ∈ (stdOf F a).2.map (Option.map (clsOf (alike F))) := List.mem_map.mpr ⟨some m, hx, rfl⟩
        rw [e] at this
        obtain ⟨y, hy, ey⟩ := List.mem_map.mp this
        cases y with
        | none => cases ey
        | some n =>
          have ey : some (clsOf (alike F) n) = some (clsOf (alike F) m) := ey
          rw [← Option.some.inj ey]
          exact o.in_ i hi n hy
      have up1 : ∀ x y : Option Nat, (∀ m, x = some m → m < F.length ∧ clsOf (alike F) m ∈ met.map (clsOf (alike F))) → (∀ m, y = some m → m < F.length ∧ clsOf (alike F) m ∈ met.map (clsOf (alike F))) →
          x.map (clsOf (alike F)) = y.map (clsOf (alike F)) → x.map (clsOf cs) = y.map (clsOf cs) := fun x y hx hy e => by
        cases x with
        | none =>
          cases y with
          | none => rfl
          | some n => cases e
        | some m =>
          cases y with
          | none => cases e
          | some n =>
            have e : some (clsOf (alike F) m) = some (clsOf (alike F) n) := e
            obtain ⟨m1, m2⟩ := hx m rfl
            obtain ⟨n1, n2⟩ := hy n rfl
            obtain ⟨q1, q2⟩ := o.idx hl m2
            show some _ = some _
            rw [r m n m1 n1 ⟨_, _, q1, q1, rfl, q2.symm, by rw [q2]; exact (Option.some.inj e).symm⟩]
      have up2 : ∀ x y : Option Nat, (∀ m, x = some m → m < F.length ∧ clsOf (alike F) m ∈ met.map (clsOf (alike F))) → (∀ m, y = some m → m < F.length ∧ clsOf (alike F) m ∈ met.map (clsOf (alike F))) →
          (newWay (alike F) met x).map (clsOf (alike R)) = (newWay (alike F) met y).map (clsOf (alike R)) → x.map (clsOf cs) = y.map (clsOf cs) := fun x y hx hy e => by
        cases x with
        | none =>
          cases y with
          | none => rfl
          | some n => cases e
        | some m =>
          cases y with
          | none => cases e
          | some n =>
            obtain ⟨m1, m2⟩ := hx m rfl
            obtain ⟨n1, n2⟩ := hy n rfl
            obtain ⟨q1, q2⟩ := o.idx hl m2
            obtain ⟨q3, q4⟩ := o.idx hl n2
            have e : some (clsOf (alike R) ((met.map (clsOf (alike F))).idxOf (clsOf (alike F) m))) = some (clsOf (alike R) ((met.map (clsOf (alike F))).idxOf (clsOf (alike F) n))) := e
            show some _ = some _
            rw [r m n m1 n1 ⟨_, _, q1, q3, Option.some.inj e, q2.symm, q4.symm⟩]
      have mi := met_in i hi a ha h1
      have mi' := met_in i hi _ (o.lt hi) rfl
      have mj := met_in j hj b hb h2
      have mj' := met_in j hj _ (o.lt hj) rfl
      rw [map_up mi mi' up1 (S.ways a _ ha (o.lt hi) h1), map_up mj mj' up1 (S.ways b _ hb (o.lt hj) h2)]
      refine map_up2 (f := fun x => (newWay (alike F) met x).map (clsOf (alike R))) mi' mj' up2 ?_
      have e := S'.ways i j hi hj h
      rw [o.std hi, o.std hj] at e
      have e : ((stdOf F (met.getD i 0)).2.map (newWay (alike F) met)).map (Option.map (clsOf (alike R))) = ((stdOf F (met.getD j 0)).2.map (newWay (alike F) met)).map (Option.map (clsOf (alike R))) := e
      rw [List.map_map, List.map_map] at e
      exact e
  intro i j hi hj h
  have e := key _ _ (o.lt hi) (o.lt hj) ⟨i, j, hi, hj, h, rfl, rfl⟩
  have nd := o.m.nd
  have hi' : i < met.length := by omega
  have hj' : j < met.length := by omega
  have g1 : ∀ k (hk : k < met.length), (met.map (clsOf (alike F)))[k]'(by rw [List.length_map]; exact hk) = clsOf (alike F) (met.getD k 0) := fun k hk => by
    rw [List.getElem_map, List.getD_eq_getElem?_getD, List.getElem?_eq_getElem hk]
    rfl
  refine (List.getElem_inj (h₀ := by rw [List.length_map]; exact hi') (h₁ := by rw [List.length_map]; exact hj') nd).mp ?_
  rw [g1 i hi', g1 j hj']
  exact e
end QM
end

section
set_option linter.all false
set_option autoImplicit false
/-! Qleast6: a least form is in order. -/
namespace QM
open PySem QB L2
def orderMet (F : Form) (cs : List Nat) : Nat → List Nat → Form → List Nat
  | 0, met, _ => met
  | f + 1, met, told => if told.length < met.length then
      orderMet F cs f (visitAll cs met (stdOf F (met.getD told.length 0)).2) (told ++ [newStd cs (visitAll cs met (stdOf F (met.getD told.length 0)).2) (stdOf F (met.getD told.length 0))])
    else met
theorem orderMet_pre (F : Form) (cs : List Nat) : ∀ (f : Nat) (met : List Nat) (told : Form), ∃ t, orderMet F cs f met told = met ++ t
  | 0, met, _ => ⟨[], by simp [orderMet]⟩
  | f + 1, met, told => by
    unfold orderMet
    by_cases h : told.length < met.length
    · rw [if_pos h]
      obtain ⟨t1, e1⟩ := visitAll_pre cs (stdOf F (met.getD told.length 0)).2 met
      obtain ⟨t2, e2⟩ := orderMet_pre F cs f (visitAll cs met (stdOf F (met.getD told.length 0)).2) (told ++ [newStd cs (visitAll cs met (stdOf F (met.getD told.length 0)).2) (stdOf F (met.getD told.length 0))])
      exact ⟨t1 ++ t2, by rw [e2, e1, List.append_assoc]⟩
    · rw [if_neg h]
      exact ⟨[], by simp⟩
theorem orderMet_ord {tags : List Str} {F : Form} {cs : List Nat} (g : Good tags F) : ∀ (f : Nat) (met : List Nat) (told : Form), OrdOf F cs met told → F.length + 1 ≤ told.length + f → OrdOf F cs (orderMet F cs f met told) (orderLoop F cs f met told) ∧ (orderLoop F cs f met told).length = (orderMet F cs f met told).length
  | 0, met, told, o, h => by
    have := o.le
    have := o.m.len
    omega
  | f + 1, met, told, o, h => by
    unfold orderLoop orderMet
    by_cases hl : told.length < met.length
    · rw [if_pos hl, if_pos hl]
      exact orderMet_ord g f _ _ (o.step g hl) (by rw [List.length_append]; show _ ≤ told.length + 1 + f; omega)
    · rw [if_neg hl, if_neg hl]
      exact ⟨o, by have := o.le; omega⟩
section
variable {cs cs' M : List Nat} {n0 : Nat} (D : ∀ i j, i < n0 → j < n0 → clsOf cs' i = clsOf cs' j → i = j) (hM : M.length = n0)
include D hM
theorem visitAll_again : ∀ (ws : Ways) (mp t : List Nat), M = visitAll cs mp ws ++ t → visitAll cs' (List.range mp.length) (ws.map (newWay cs M)) = List.range (visitAll cs mp ws).length
  | [], mp, t, _ => rfl
  | w :: ws, mp, t, h => by
    have h' : M = visitAll cs (visit cs mp w) ws ++ t := h
    obtain ⟨t2, e2⟩ := visitAll_pre cs ws (visit cs mp w)
    have hp : M = visit cs mp w ++ (t2 ++ t) := by rw [h', e2, List.append_assoc]
    have one : visit cs' (List.range mp.length) (newWay cs M w) = List.range (visit cs mp w).length := by
      cases w with
      | none => rfl
      | some n =>
        show visit cs' (List.range mp.length) (some ((M.map (clsOf cs)).idxOf (clsOf cs n))) = _
        by_cases hm : clsOf cs n ∈ mp.map (clsOf cs)
        · have ev : visit cs mp (some n) = mp := if_pos hm
          rw [ev] at hp ⊢
          have ei : (M.map (clsOf cs)).idxOf (clsOf cs n) = (mp.map (clsOf cs)).idxOf (clsOf cs n) := by rw [hp, List.map_append, idxOf_pre' hm]
          have hlt := List.idxOf_lt_length_of_mem hm
          rw [List.length_map] at hlt
          rw [ei]
          exact if_pos (List.mem_map.mpr ⟨_, List.mem_range.mpr hlt, rfl⟩)
        · have ev : visit cs mp (some n) = mp ++ [n] := if_neg hm
          rw [ev] at hp ⊢
          have ei : (M.map (clsOf cs)).idxOf (clsOf cs n) = mp.length := by
            rw [hp, List.map_append, List.map_append, List.append_assoc, List.idxOf_append, if_neg hm, List.length_map]
            show List.idxOf (clsOf cs n) (clsOf cs n :: _) + mp.length = mp.length
            rw [List.idxOf_cons_self, Nat.zero_add]
          have hlen : mp.length < n0 := by
            rw [← hM, hp, List.length_append, List.length_append]
            show _ < _ + 1 + _
            omega
          rw [ei, List.length_append]
          have hno : clsOf cs' mp.length ∉ (List.range mp.length).map (clsOf cs') := fun hc => by
            obtain ⟨i, hi, e⟩ := List.mem_map.mp hc
            rw [List.mem_range] at hi
            have := D i mp.length (by omega) hlen e
            omega
          show (if clsOf cs' mp.length ∈ (List.range mp.length).map (clsOf cs') then List.range mp.length else List.range mp.length ++ [mp.length]) = List.range (mp.length + 1)
          rw [if_neg hno, List.range_succ]
    show visitAll cs' (visit cs' (List.range mp.length) (newWay cs M w)) (ws.map (newWay cs M)) = List.range (visitAll cs (visit cs mp w) ws).length
    rw [one]
    exact visitAll_again ws (visit cs mp w) t h'
theorem newStd_again {s : Std} {K : Nat} (hK : K ≤ n0) (hs : ∀ i, some i ∈ s.2 → i < K) : newStd cs' (List.range K) s = s := by
  have nd : ((List.range K).map (clsOf cs')).Nodup := by
    refine List.pairwise_map.mpr (List.nodup_range.imp_of_mem fun {i j} hi hj hne e => hne ?_)
    rw [List.mem_range] at hi hj
    exact D i j (by omega) (by omega) e
  unfold newStd
  have e : s.2.map (newWay cs' (List.range K)) = s.2 := by
    refine (List.map_congr_left fun x hx => ?_).trans (List.map_id _)
    cases x with
    | none => rfl
    | some i =>
      have hi := hs i hx
      have hi' : i < ((List.range K).map (clsOf cs')).length := by rw [List.length_map, List.length_range]; exact hi
      have := idxOf_nodup nd hi'
      rw [List.getElem_map, List.getElem_range] at this
      show some (((List.range K).map (clsOf cs')).idxOf (clsOf cs' i)) = some i
      rw [this]
  rw [e]
end
theorem order_again {tags : List Str} {F : Form} {cs cs' M : List Nat} {R : Form} (g : Good tags F) (oR : OrdOf F cs M R) (hM : R.length = M.length) (D : ∀ i j, i < R.length → j < R.length → clsOf cs' i = clsOf cs' j → i = j) :
    ∀ (f f' : Nat) (mp : List Nat) (told : Form), OrdOf F cs mp told → F.length + 1 ≤ told.length + f → R.length + 1 ≤ told.length + f' → orderMet F cs f mp told = M → orderLoop F cs f mp told = R → orderLoop R cs' f' (List.range mp.length) told = R
  | 0, _, mp, told, o, h, _, _, _ => by
    have := o.le
    have := o.m.len
    omega
  | f + 1, 0, mp, told, o, h, h', eM, _ => by
    obtain ⟨t, e⟩ := orderMet_pre F cs (f + 1) mp told
    rw [eM] at e
    have := o.le
    rw [hM, e, List.length_append] at h'
    omega
  | f + 1, f' + 1, mp, told, o, h, h', eM, eR => by
    unfold orderLoop at eR ⊢
    unfold orderMet at eM
    rw [List.length_range]
    by_cases hl : told.length < mp.length
    · rw [if_pos hl] at eR eM ⊢
      obtain ⟨t, et⟩ := orderMet_pre F cs f (visitAll cs mp (stdOf F (mp.getD told.length 0)).2) (told ++ [newStd cs (visitAll cs mp (stdOf F (mp.getD told.length 0)).2) (stdOf F (mp.getD told.length 0))])
      rw [eM] at et
      obtain ⟨t1, et1⟩ := visitAll_pre cs (stdOf F (mp.getD told.length 0)).2 mp
      have hs : told.length < R.length := by
        rw [hM, et, et1, List.length_append, List.length_append]
        omega
      have gd : (List.range mp.length).getD told.length 0 = told.length := by
        rw [List.getD_eq_getElem?_getD, List.getElem?_range hl]
        rfl
      have gM : M.getD told.length 0 = mp.getD told.length 0 := by
        rw [et, et1, List.append_assoc]
        exact getD_pre hl
      have sR := oR.std hs
      rw [gM] at sR
      have has := visitAll_has cs (stdOf F (mp.getD told.length 0)).2 mp
      have va := visitAll_again (cs' := cs') D hM.symm (stdOf F (mp.getD told.length 0)).2 mp t et
      have n1 : newStd cs (visitAll cs mp (stdOf F (mp.getD told.length 0)).2) (stdOf F (mp.getD told.length 0)) = stdOf R told.length := by
        rw [sR, et, newStd_pre has]
      have st := o.step g hl
      rw [n1] at eR eM st
      have hK : (visitAll cs mp (stdOf F (mp.getD told.length 0)).2).length ≤ R.length := by
        rw [hM]
        have := congrArg List.length et
        rw [List.length_append] at this
        omega
      have n2 : newStd cs' (List.range (visitAll cs mp (stdOf F (mp.getD told.length 0)).2).length) (stdOf R told.length) = stdOf R told.length := by
        refine newStd_again (cs' := cs') D hM.symm hK fun i hi => ?_
        rw [sR] at hi
        obtain ⟨x, hx, e⟩ := List.mem_map.mp (show some i ∈ (stdOf F (mp.getD told.length 0)).2.map (newWay cs M) from hi)
        cases x with
        | none => cases e
        | some n =>
          have e : some ((M.map (clsOf cs)).idxOf (clsOf cs n)) = some i := e
          have hc := has n hx
          rw [← Option.some.inj e, et, List.map_append, idxOf_pre' hc]
          have := List.idxOf_lt_length_of_mem hc
          rwa [List.length_map] at this
      have wR : (stdOf R told.length).2 = (stdOf F (mp.getD told.length 0)).2.map (newWay cs M) := by
        rw [sR]
        rfl
      rw [gd, wR, va, n2]
      exact order_again g oR hM D f f' _ _ st (by rw [List.length_append]; show _ ≤ told.length + 1 + f; omega) (by rw [List.length_append]; show _ ≤ told.length + 1 + f'; omega) eM eR
    · rw [if_neg hl] at eR ⊢
      exact eR
theorem inOrder_again {tags : List Str} {F : Form} (g : Good tags F) : inOrder (inOrder F (alike F)) (alike (inOrder F (alike F))) = inOrder F (alike F) := by
  have o0 : OrdOf F (alike F) [0] [] := ⟨⟨by simp, fun m hm => by rw [List.mem_singleton.mp hm]; exact g.pos⟩, rfl, by simp, fun i hi => absurd hi (Nat.not_lt_zero _), fun i hi => absurd hi (Nat.not_lt_zero _)⟩
  obtain ⟨o, hl⟩ := orderMet_ord g (F.length + 1) [0] [] o0 (by simp)
  have e := order_again g o hl (ord_apart g o hl) (F.length + 1) ((orderLoop F (alike F) (F.length + 1) [0] []).length + 1) [0] [] o0 (by simp) (by simp) rfl rfl
  exact e
theorem least_again {tags : List Str} {F : Form} (g : Good tags F) (nd : tags.Nodup) : least tags (least tags F) = least tags F := by
  have gR := least_good g
  have e := needless_same gR nd fun i j t hi ht h hw => least_none g hi ht h hw
  show inOrder (needless tags (least tags F)) (alike (needless tags (least tags F))) = _
  rw [e]
  exact inOrder_again (needless_good g)
end QM
end

section
set_option Elab.async false
set_option linter.all false
set_option maxRecDepth 100000
set_option maxHeartbeats 4000000
namespace Law
open PySem PySem.Spec PyProof.Rows L2 LamX QB QM
/-! lists within lists: in and index -/
theorem hu65 {A : Around} {k : Nat} (hr : Room k A) : A.units + 65 < cLine := by
  have := hr.un
  omega
section
variable (K : PySem.W.Frag) {X : Cx}
theorem op_notInDK (hu : X.A.units + 65 < cLine) (h : X.K = K := by rfl) : OpR X (compareOp .NotIn) (rNotInD K) := h ▸ op_notInD hu
theorem mt_indexDK (hu : X.A.units + 65 < cLine) (h : X.K = K := by rfl) : MtR X "list.index" (rIndexD K) := h ▸ mt_indexD hu
end
section
variable {α : Type} [DecidableEq α] {D : α → PyData} {ok : α → Prop} {n : Nat} {K : PySem.W.Frag} {H : Hp}
theorem any_enc (e : Enc D ok n) (x : α) : ∀ xs : List α, ((xs.map D).any fun z => PyData.eqv z (D x)) = decide (x ∈ xs)
  | [] => by simp
  | y :: ys => by
    rw [List.map_cons, List.any_cons, any_enc e x ys, e.eq]
    by_cases h : y = x
    · subst h
      simp
    · have h' : ¬ x = y := fun z => h z.symm
      simp [h, h']
theorem notin_enc (e : Enc D ok n) (hn : n + 1 ≤ 64) {u v : V} {x : α} {xs : List α} {Q : VK} (hx : Dp K H u (D x)) (hy : Dp K H v (.list (xs.map D))) (ox : ok x) (oxs : ∀ x ∈ xs, ok x) (q : Q (.bl (!decide (x ∈ xs))) H) : rNotInD K u v H Q :=
  ⟨_, _, hx, hy, shaped_of e (by omega) ox, shaped_of e.list hn oxs, by rw [any_enc e]; exact q⟩
theorem notin_yes (e : Enc D ok n) (hn : n + 1 ≤ 64) {u v : V} {x : α} {xs : List α} {Q : VK} (hx : Dp K H u (D x)) (hy : Dp K H v (.list (xs.map D))) (ox : ok x) (oxs : ∀ x ∈ xs, ok x) (h : x ∈ xs) (q : Q (.bl false) H) : rNotInD K u v H Q :=
  notin_enc e hn hx hy ox oxs (by rw [decide_eq_true h]; exact q)
theorem notin_no (e : Enc D ok n) (hn : n + 1 ≤ 64) {u v : V} {x : α} {xs : List α} {Q : VK} (hx : Dp K H u (D x)) (hy : Dp K H v (.list (xs.map D))) (ox : ok x) (oxs : ∀ x ∈ xs, ok x) (h : ¬ x ∈ xs) (q : Q (.bl true) H) : rNotInD K u v H Q :=
  notin_enc e hn hx hy ox oxs (by rw [decide_eq_false h]; exact q)
theorem idx_min : ∀ (xs : List α) (x z : α) (m : Nat), m < xs.idxOf x → xs[m]? = some z → z ≠ x
  | [], x, z, m, _, h => by simp at h
  | y :: ys, x, z, m, hm, h => by
    rw [List.idxOf_cons] at hm
    by_cases hy : y = x
    · subst hy
      simp at hm
    · have e : (y == x) = false := by simp [hy]
      rw [e] at hm
      cases m with
      | zero =>
        have h : y = z := Option.some.inj h
        rw [← h]
        exact hy
      | succ m =>
        have h : ys[m]? = some z := h
        exact idx_min ys x z m (by simpa using hm) h
theorem idx_get {xs : List α} {x : α} (h : x ∈ xs) : xs[xs.idxOf x]? = some x := by
  have hl := List.idxOf_lt_length_of_mem h
  rw [List.getElem?_eq_getElem hl, List.getElem_idxOf]
theorem index_enc (e : Enc D ok n) (hn : n + 1 ≤ 64) {a : Addr} {u : V} {x : α} {xs : List α} {Q : VK} (hx : Dp K H u (D x)) (hy : Dp K H (.ref a) (.list (xs.map D))) (ox : ok x) (oxs : ∀ x ∈ xs, ok x) (h : x ∈ xs) (q : Q (.int ((xs.idxOf x : Nat) : Int)) H) : rIndexD K (.ref a) [u] H Q := by
  refine ⟨a, u, D x, xs.map D, xs.idxOf x, D x, rfl, rfl, hy, hx, shaped_of e.list hn oxs, shaped_of e (by omega) ox, by rw [List.getElem?_map, idx_get h]; rfl, by rw [e.eq]; exact decide_eq_true rfl, fun m z' hm hz => ?_, q⟩
  rw [List.getElem?_map] at hz
  cases hg : xs[m]? with
  | none =>
    rw [hg] at hz
    cases hz
  | some z =>
    rw [hg] at hz
    cases hz
    rw [e.eq]
    exact decide_eq_false (idx_min xs x z m hm hg)
end
/-! the heap without some addresses: the pile and what is yet to be changed -/
def hide (M : List Addr) (H : Hp) : Hp := fun a => if a ∈ M then none else H a
theorem hide_at {M : List Addr} {a : Addr} {H : Hp} {o : HO} (n : a ∉ M) (h : H a = some o) : hide M H a = some o := by
  unfold hide
  rw [if_neg n]
  exact h
theorem hide_get {M : List Addr} {a : Addr} {H : Hp} {o : HO} (h : hide M H a = some o) : a ∉ M ∧ H a = some o := by
  unfold hide at h
  by_cases e : a ∈ M
  · rw [if_pos e] at h
    cases h
  · rw [if_neg e] at h
    exact ⟨e, h⟩
theorem hide_exc {M : List Addr} {p : Addr} {H H' : Hp} (hp : p ∈ M) (x : Exc [p] H H') : Same (hide M H) (hide M H') := fun a o h => by
  obtain ⟨n, h⟩ := hide_get h
  exact hide_at n (x a o (fun z => n (List.mem_singleton.mp z ▸ hp)) h)
theorem hide_same {M : List Addr} {H H' : Hp} (x : Same H H') : Same (hide M H) (hide M H') := fun a o h => by
  obtain ⟨n, h⟩ := hide_get h
  exact hide_at n (x a o h)
theorem hide_sub {M : List Addr} {H : Hp} : Same (hide M H) H := fun a o h => (hide_get h).2
theorem tr_same {M : List Addr} {H H' : Hp} (h : ∀ b ∈ M, H b ≠ none) (s : Same H H') : ∀ b ∈ M, H' b ≠ none := fun b hb e => h b hb (s.free e)
theorem tr_exc {M : List Addr} {p : Addr} {H H' : Hp} (h : ∀ b ∈ M, H b ≠ none) (x : Exc [p] H H') (hp : PileAt H' p) : ∀ b ∈ M, H' b ≠ none := fun b hb e => by
  by_cases z : b = p
  · subst z
    obtain ⟨_, _, _, q⟩ := hp
    rw [q] at e
    cases e
  · cases q : H b with
    | none => exact h b hb q
    | some o =>
      rw [x b o (by simpa using z) q] at e
      cases e
theorem make_sub {tags : Word} {F : Form} {wd : Word} (ok : WordsOk tags F) (h : ∀ t ∈ wd, t ∈ tags) : ∀ t ∈ make tags F wd, t ∈ tags := fun t ht => by
  unfold make at ht
  rcases List.mem_append.mp ht with h1 | h1
  · unfold wordOf at h1
    cases e : F[(walk tags F wd).1]? with
    | none =>
      rw [e] at h1
      cases h1
    | some s =>
      rw [e] at h1
      exact ok.sub s (mem_of e) t h1
  · exact h t (List.mem_of_mem_drop h1)
theorem make_len {tags : Word} {F : Form} {wd : Word} {n : Nat} (ok : ∀ s ∈ F, s.1.length ≤ n) : (make tags F wd).length ≤ n + wd.length := by
  unfold make
  rw [List.length_append, List.length_drop]
  have : (wordOf F (walk tags F wd).1).length ≤ n := by
    unfold wordOf
    cases e : F[(walk tags F wd).1]? with
    | none => exact Nat.zero_le _
    | some s => exact ok s (mem_of e)
  omega
theorem least_wordsF {tags : Word} {F : Form} (to : TagsOk tags) (fo : FormOk tags F) : WordsOk tags (least tags F) := by
  refine ⟨fun x hx => (to.names x hx).txt, fun s hs t ht => ?_, fun s hs => ?_⟩
  · obtain ⟨s', h1, h2⟩ := least_word fo.good hs
    rw [h2] at ht
    exact (fo.all s' h1).sub t ht
  · obtain ⟨s', h1, h2⟩ := least_word fo.good hs
    rw [h2]
    have := (fo.all s' h1).len
    omega
/-! the letters by their keys -/
def seenTo (ks : List Word) : Nat → List Word
  | 0 => []
  | n + 1 => if ks.getD n [] ∈ seenTo ks n then seenTo ks n else seenTo ks n ++ [ks.getD n []]
def withKey (ks : List Word) (n : Nat) (k : Word) : List Nat := (List.range n).filter fun i => decide (ks.getD i [] = k)
theorem withKey_succ (ks : List Word) (n : Nat) (k : Word) : withKey ks (n + 1) k = withKey ks n k ++ (if ks.getD n [] = k then [n] else []) := by
  unfold withKey
  rw [List.range_succ, List.filter_append, List.filter_cons]
  by_cases h : ks.getD n [] = k
  · rw [decide_eq_true h, if_pos rfl, if_pos h]
    rfl
  · rw [decide_eq_false h, if_neg (by simp), if_neg h]
    rfl
theorem withKey_same {ks : List Word} {n : Nat} : withKey ks (n + 1) (ks.getD n []) = withKey ks n (ks.getD n []) ++ [n] := by rw [withKey_succ, if_pos rfl]
theorem withKey_other {ks : List Word} {n : Nat} {k : Word} (h : k ≠ ks.getD n []) : withKey ks (n + 1) k = withKey ks n k := by rw [withKey_succ, if_neg fun z => h z.symm, List.append_nil]
theorem withKey_len (ks : List Word) (n : Nat) (k : Word) : (withKey ks n k).length ≤ n := by
  have := List.length_filter_le (fun i => decide (ks.getD i [] = k)) (List.range n)
  rw [List.length_range] at this
  exact this
theorem mem_withKey {ks : List Word} {n i : Nat} {k : Word} : i ∈ withKey ks n k ↔ i < n ∧ ks.getD i [] = k := by
  unfold withKey
  rw [List.mem_filter, List.mem_range, decide_eq_true_iff]
theorem withKey_pre {ks : List Word} {w k : Word} : ∀ {n : Nat}, n ≤ ks.length → withKey (ks ++ [w]) n k = withKey ks n k
  | 0, _ => rfl
  | n + 1, h => by
    rw [withKey_succ, withKey_succ, withKey_pre (by omega), List.getD_eq_getElem?_getD, List.getElem?_append_left (by omega), ← List.getD_eq_getElem?_getD]
theorem withKey_new {ks : List Word} {w : Word} : withKey (ks ++ [w]) (ks.length + 1) w = withKey ks ks.length w ++ [ks.length] := by
  have e : (ks ++ [w]).getD ks.length [] = w := by
    rw [List.getD_eq_getElem?_getD, List.getElem?_append_right (Nat.le_refl _), Nat.sub_self]
    rfl
  have h := withKey_same (ks := ks ++ [w]) (n := ks.length)
  rw [e, withKey_pre (Nat.le_refl _)] at h
  exact h
theorem seenTo_in {ks : List Word} {n : Nat} (h : ks.getD n [] ∈ seenTo ks n) : seenTo ks (n + 1) = seenTo ks n := by
  show (if ks.getD n [] ∈ seenTo ks n then seenTo ks n else seenTo ks n ++ [ks.getD n []]) = _
  rw [if_pos h]
theorem seenTo_out {ks : List Word} {n : Nat} (h : ¬ ks.getD n [] ∈ seenTo ks n) : seenTo ks (n + 1) = seenTo ks n ++ [ks.getD n []] := by
  show (if ks.getD n [] ∈ seenTo ks n then seenTo ks n else seenTo ks n ++ [ks.getD n []]) = _
  rw [if_neg h]
theorem seenTo_nodup (ks : List Word) : ∀ n, (seenTo ks n).Nodup
  | 0 => List.nodup_nil
  | n + 1 => by
    by_cases h : ks.getD n [] ∈ seenTo ks n
    · rw [seenTo_in h]
      exact seenTo_nodup ks n
    · rw [seenTo_out h]
      refine List.nodup_append.mpr ⟨seenTo_nodup ks n, by simp, fun a ha b hb e => ?_⟩
      rw [List.mem_singleton] at hb
      exact h (hb ▸ e ▸ ha)
theorem mem_seenTo {ks : List Word} : ∀ {n i : Nat}, i < n → ks.getD i [] ∈ seenTo ks n
  | n + 1, i, h => by
    by_cases e : ks.getD n [] ∈ seenTo ks n
    · rw [seenTo_in e]
      rcases (by omega : i < n ∨ i = n) with hi | rfl
      · exact mem_seenTo hi
      · exact e
    · rw [seenTo_out e]
      rcases (by omega : i < n ∨ i = n) with hi | rfl
      · exact List.mem_append.mpr (.inl (mem_seenTo hi))
      · exact List.mem_append.mpr (.inr (List.mem_singleton.mpr rfl))
theorem seenTo_mem {ks : List Word} {k : Word} : ∀ {n : Nat}, k ∈ seenTo ks n → ∃ i < n, ks.getD i [] = k
  | 0, h => nomatch h
  | n + 1, h => by
    by_cases e : ks.getD n [] ∈ seenTo ks n
    · rw [seenTo_in e] at h
      obtain ⟨i, hi, z⟩ := seenTo_mem h
      exact ⟨i, by omega, z⟩
    · rw [seenTo_out e] at h
      rcases List.mem_append.mp h with h | h
      · obtain ⟨i, hi, z⟩ := seenTo_mem h
        exact ⟨i, by omega, z⟩
      · exact ⟨n, by omega, (List.mem_singleton.mp h).symm⟩
theorem seenTo_len (ks : List Word) : ∀ n, (seenTo ks n).length ≤ n
  | 0 => Nat.le_refl _
  | n + 1 => by
    have := seenTo_len ks n
    by_cases h : ks.getD n [] ∈ seenTo ks n
    · rw [seenTo_in h]
      omega
    · rw [seenTo_out h, List.length_append]
      show _ + 1 ≤ _
      omega
theorem withKey_none {ks : List Word} {n : Nat} {k : Word} (h : ¬ k ∈ seenTo ks n) : withKey ks n k = [] := by
  unfold withKey
  rw [List.filter_eq_nil_iff]
  intro i hi z
  exact h (of_decide_eq_true z ▸ mem_seenTo (List.mem_range.mp hi))
/-- those of the talks that hold a letter -/
theorem filter_one {ks : List Word} {n i : Nat} (hi : i < n) : (seenTo ks n).filter (fun k => decide (i ∈ withKey ks n k)) = [ks.getD i []] := by
  have key : ∀ l : List Word, l.Nodup → ks.getD i [] ∈ l → l.filter (fun k => decide (i ∈ withKey ks n k)) = [ks.getD i []] := by
    intro l
    induction l with
    | nil => exact fun _ h => nomatch h
    | cons k l ih =>
      intro nd hm
      have nd2 := List.nodup_cons.mp nd
      rw [List.filter_cons]
      by_cases e : ks.getD i [] = k
      · rw [decide_eq_true (mem_withKey.mpr ⟨hi, e⟩), if_pos rfl, ← e]
        congr 1
        rw [List.filter_eq_nil_iff]
        intro k' hk' z
        have z2 := (mem_withKey.mp (of_decide_eq_true z)).2
        exact nd2.1 (e ▸ z2 ▸ hk')
      · rw [decide_eq_false (fun z => e (mem_withKey.mp z).2), if_neg (by simp)]
        rcases List.mem_cons.mp hm with z | z
        · exact absurd z e
        · exact ih nd2.2 z
  exact key _ (seenTo_nodup ks n) (mem_seenTo hi)
def vN (l : List Nat) : List V := l.map fun i : Nat => V.int (i : Int)
def dNs (l : List Nat) : PyData := .list (l.map fun i : Nat => PyData.int (i : Int))
theorem enc_nat : Enc (fun i : Nat => PyData.int (i : Int)) (fun _ => True) 0 := ⟨fun x y => by
    rw [enc_int.eq]
    by_cases h : x = y
    · subst h
      simp
    · rw [decide_eq_false h]
      exact decide_eq_false fun z => h (Int.ofNat.inj z), fun x _ => enc_int.lay _ trivial, fun x => enc_int.dep _⟩
theorem enc_nats : Enc dNs (fun l => ∀ x ∈ l, True) 1 := enc_nat.list
theorem dp_nats {K : PySem.W.Frag} {H : Hp} {a : Addr} {l : List Nat} (h : H a = some (.lst (vN l))) : Dp K H (.ref a) (dNs l) := .lst (SqL.of h) (dpAll_map _ _ (fun x => .int _) l)
theorem vN_len (l : List Nat) : (vN l).length = l.length := List.length_map _
theorem vN_app (l k : List Nat) : vN (l ++ k) = vN l ++ vN k := List.map_append
def keyT (w : Word) : List L2.Key := w.map Sum.inr
theorem keyT_v (w : Word) : (keyT w).map kV = vS w := by
  unfold keyT vS
  rw [List.map_map]
  rfl
theorem keyT_inj {v w : Word} (h : keyT v = keyT w) : v = w := by
  unfold keyT at h
  induction v generalizing w with
  | nil =>
    cases w with
    | nil => rfl
    | cons => cases h
  | cons x v ih =>
    cases w with
    | nil => cases h
    | cons y w =>
      rw [List.map_cons, List.map_cons] at h
      injection h with h1 h2
      rw [Sum.inr.inj h1, ih h2]
/-- lists of numbers by key -/
structure Grp (H0 H : Hp) (D : List Addr) (A : Word → Addr) (ks : List Word) (f : Word → List Nat) : Prop where
  at_ : ∀ k ∈ ks, H (A k) = some (.lst (vN (f k)))
  inj : ∀ k ∈ ks, ∀ k' ∈ ks, A k = A k' → k = k'
  new : ∀ k ∈ ks, H0 (A k) = none
  out : ∀ k ∈ ks, A k ∉ D
theorem Grp.nil {H0 H : Hp} {D : List Addr} {A : Word → Addr} {f : Word → List Nat} : Grp H0 H D A [] f := ⟨fun _ h => (nomatch h), fun _ h => (nomatch h), fun _ h => (nomatch h), fun _ h => (nomatch h)⟩
theorem Grp.same {H0 H H' : Hp} {D : List Addr} {A : Word → Addr} {ks : List Word} {f : Word → List Nat} (g : Grp H0 H D A ks f) (s : Same H H') : Grp H0 H' D A ks f := ⟨fun k h => s _ _ (g.at_ k h), g.inj, g.new, g.out⟩
theorem Grp.exc {H0 H H' : Hp} {D : List Addr} {A : Word → Addr} {ks : List Word} {f : Word → List Nat} (g : Grp H0 H D A ks f) (s : Exc D H H') : Grp H0 H' D A ks f := ⟨fun k h => s _ _ (g.out k h) (g.at_ k h), g.inj, g.new, g.out⟩
/-- one number more, its key seen -/
theorem Grp.old {H0 H : Hp} {D : List Addr} {A : Word → Addr} {ws : List Word} {n : Nat} (g : Grp H0 H D A (seenTo ws n) (withKey ws n)) (h : ws.getD n [] ∈ seenTo ws n) :
    Grp H0 (upd H (A (ws.getD n [])) (.lst (vN (withKey ws n (ws.getD n [])) ++ [V.int (n : Int)]))) D A (seenTo ws (n + 1)) (withKey ws (n + 1)) := by
  rw [seenTo_in h]
  refine ⟨fun k hk => ?_, g.inj, g.new, g.out⟩
  by_cases e : k = ws.getD n []
  · rw [e, upd_same, withKey_same, vN_app]
    rfl
  · rw [upd_ne fun z => e (g.inj _ hk _ h z), withKey_other e]
    exact g.at_ k hk
/-- one number more, its key new, in a new list -/
theorem Grp.fresh {H0 H H' : Hp} {D : List Addr} {A : Word → Addr} {ws : List Word} {n : Nat} {q : Addr} (g : Grp H0 H D A (seenTo ws n) (withKey ws n)) (h : ¬ ws.getD n [] ∈ seenTo ws n)
    (x : Exc D H H') (nq : H q = none) (n0 : H0 q = none) (qD : q ∉ D) (hq : H' q = some (.lst [V.int (n : Int)])) :
    Grp H0 H' D (fun k => if k = ws.getD n [] then q else A k) (seenTo ws (n + 1)) (withKey ws (n + 1)) := by
  rw [seenTo_out h]
  have old : ∀ {k}, k ∈ seenTo ws n → (if k = ws.getD n [] then q else A k) = A k := fun {k} hk => if_neg fun (z : k = ws.getD n []) => h (by rw [← z]; exact hk)
  have ne : ∀ {k}, k ∈ seenTo ws n → A k ≠ q := fun {k} hk z => by
    have := g.at_ k hk
    rw [z, nq] at this
    cases this
  refine ⟨fun k hk => ?_, fun k hk k' hk' e => ?_, fun k hk => ?_, fun k hk => ?_⟩
  · rcases List.mem_append.mp hk with hk | hk
    · show H' (if k = ws.getD n [] then q else A k) = _
      rw [old hk, withKey_other fun (z : k = ws.getD n []) => h (by rw [← z]; exact hk)]
      exact x _ _ (g.out k hk) (g.at_ k hk)
    · show H' (if k = ws.getD n [] then q else A k) = _
      rw [List.mem_singleton.mp hk, if_pos rfl, withKey_same, withKey_none h]
      exact hq
  · have e : (if k = ws.getD n [] then q else A k) = (if k' = ws.getD n [] then q else A k') := e
    rcases List.mem_append.mp hk with hk | hk <;> rcases List.mem_append.mp hk' with hk' | hk'
    · rw [old hk, old hk'] at e
      exact g.inj _ hk _ hk' e
    · rw [old hk, List.mem_singleton.mp hk', if_pos rfl] at e
      exact absurd e (ne hk)
    · rw [old hk', List.mem_singleton.mp hk, if_pos rfl] at e
      exact absurd e.symm (ne hk')
    · rw [List.mem_singleton.mp hk, List.mem_singleton.mp hk']
  · show H0 (if k = ws.getD n [] then q else A k) = none
    rcases List.mem_append.mp hk with hk | hk
    · rw [old hk]
      exact g.new k hk
    · rw [List.mem_singleton.mp hk, if_pos rfl]
      exact n0
  · show (if k = ws.getD n [] then q else A k) ∉ D
    rcases List.mem_append.mp hk with hk | hk
    · rw [old hk]
      exact g.out k hk
    · rw [List.mem_singleton.mp hk, if_pos rfl]
      exact qD
/-- talks that are told: a new list of new lists -/
def TalksAt (H0 H : Hp) (r : Addr) (ws : List Word) (n : Nat) : Prop := H0 r = none ∧ ∃ A, H r = some (.lst ((seenTo ws n).map fun k => V.ref (A k))) ∧ Grp H0 H [r] A (seenTo ws n) (withKey ws n)
theorem TalksAt.same {H0 H H' : Hp} {r : Addr} {ws : List Word} {n : Nat} (t : TalksAt H0 H r ws n) (s : Same H H') : TalksAt H0 H' r ws n := by
  obtain ⟨h0, A, h1, h2⟩ := t
  exact ⟨h0, A, s _ _ h1, h2.same s⟩
def dTalks (ws : List Word) (n : Nat) : PyData := .list (((seenTo ws n).map (withKey ws n)).map dNs)
theorem TalksAt.dp {K : PySem.W.Frag} {H0 H : Hp} {r : Addr} {ws : List Word} {n : Nat} (t : TalksAt H0 H r ws n) : Dp K H (.ref r) (dTalks ws n) := by
  obtain ⟨h0, A, h1, h2⟩ := t
  refine .lst (SqL.of h1) ?_
  rw [List.map_map]
  have key : ∀ l : List Word, (∀ k ∈ l, k ∈ seenTo ws n) → DpAll K H (l.map fun k => V.ref (A k)) (l.map (dNs ∘ withKey ws n)) := by
    intro l
    induction l with
    | nil => exact fun _ => .nil
    | cons k l ih => exact fun h => .cons (dp_nats (h2.at_ k (h k List.mem_cons_self))) (ih fun k' hk => h k' (List.mem_cons_of_mem _ hk))
  exact key _ fun _ h => h
theorem dTalks_ok (ws : List Word) (n : Nat) : SeqAt.shaped (dTalks ws n) = true ∧ PyData.eqv (dTalks ws n) (dTalks ws n) = true :=
  ⟨shaped_of (x := (seenTo ws n).map (withKey ws n)) enc_nats.list (by decide) fun _ _ _ _ => trivial, (enc_nats.list.eq ((seenTo ws n).map (withKey ws n)) _).trans (decide_eq_true rfl)⟩
end Law
end

section
set_option Elab.async false
set_option linter.all false
set_option maxRecDepth 100000
set_option maxHeartbeats 4000000
namespace Law
open PySem PySem.Spec PyProof.Rows L2 LamX QB QM
structure ProgsAt (C : Addr) (H : Hp) (p : Addr) (es : List Addr) (tags : Word) (Gs : List Form) : Prop where
  lst : H p = some (.lst (es.map V.ref))
  all : Paired (fun e G => EatAt C H e tags G) es Gs
theorem ProgsAt.ext {T : List (Addr × Str)} {C : Addr} {H H' : Hp} {p : Addr} {es : List Addr} {tags : Word} {Gs : List Form} (h : ProgsAt C H p es tags Gs) (x : QB.Ext T H H') : ProgsAt C H' p es tags Gs := ⟨x.lst h.lst, L2.Paired.mapP h.all fun _ _ q => q.ext x⟩
theorem ProgsAt.same {C : Addr} {H H' : Hp} {p : Addr} {es : List Addr} {tags : Word} {Gs : List Form} (h : ProgsAt C H p es tags Gs) (x : Same H H') : ProgsAt C H' p es tags Gs := h.ext (T := []) (.of x)
theorem ProgsAt.get {C : Addr} {H : Hp} {p : Addr} {es : List Addr} {tags : Word} {Gs : List Form} {k : Nat} (h : ProgsAt C H p es tags Gs) (hk : k < Gs.length) : ∃ e, es[k]? = some e ∧ EatAt C H e tags (Gs.getD k []) := by
  obtain ⟨e, h1, h2⟩ := paired_get h.all (List.getElem?_eq_getElem hk)
  refine ⟨e, h1, ?_⟩
  rw [List.getD_eq_getElem?_getD, List.getElem?_eq_getElem hk]
  exact h2
theorem ProgsAt.len {C : Addr} {H : Hp} {p : Addr} {es : List Addr} {tags : Word} {Gs : List Form} (h : ProgsAt C H p es tags Gs) : es.length = Gs.length := Paired.length h.all
section
variable {P : Program} {w : World} {K : PySem.W.Frag} {mg : Str → Option Value} {base : Heap}
def spCheckNumber : Sp := fun vs H Q _ => ∃ (n most : Int), vs = [.int n, .int most] ∧ 0 ≤ n ∧ n ≤ most ∧ Q .non H
theorem ok_check_number (X : TX K mg) : FnOk P w K mg base CX0 3 X.d_check_number.a X.d_check_number.fd ["number", "most"] spCheckNumber := by
  have nd := sc_check_number.nd
  refine X.d_check_number.F.ok sc_check_number (fun vs H Q E h => ?_) (fun cdv A outer s H vs Q E hr h => ?_)
  · obtain ⟨n, most, rfl, _⟩ := h
    rfl
  · obtain ⟨n, most, rfl, h1, h2, k⟩ := h
    refine ⟨_, (pss_one (ps_if (pt_not (pt_val (pe_call (ok_is_number X) (hr.mono (by decide)) rfl X.d_is_number.mg X.d_is_number.F.kp X.d_is_number.b .nil pass0 (pa_cons (pv 0) (pa_cons pe_int (pa_cons (pv 1) pa_nil)))))) (pss_one ps_never) pss_nil)), ?_⟩
    try dsimp only [Cx.nox, Cx.wish, cxOf]
    refine ⟨_, rfl, _, rfl, _, _, _, rfl, _, rfl, ?_⟩
    rw [decide_eq_true ⟨h1, h2⟩]
    exact iteF k
def spCheckProgs (C : Addr) : Sp := fun vs H Q _ => ∃ (p : Addr) (es : List Addr) (tags : Word) (Gs : List Form), vs = [.ref p] ∧ ProgsAt C H p es tags Gs ∧ OkWord tags ∧ 1 ≤ Gs.length ∧ Gs.length ≤ 6 ∧ ∀ H', Same H H' → Q .non H'
theorem ok_check_programs (X : TX K mg) : FnOk P w K mg base CX0 3 X.d_check_programs.a X.d_check_programs.fd ["programs"] (spCheckProgs X.c_Eater) := by
  have nd := sc_check_programs.nd
  refine X.d_check_programs.F.ok sc_check_programs (fun vs H Q E h => ?_) (fun cdv A outer s H vs Q E hr h => ?_)
  · obtain ⟨p, es, tags, Gs, rfl, _⟩ := h
    rfl
  · obtain ⟨p, es, tags, Gs, rfl, hp, ok, h1, h6, k⟩ := h
    refine ⟨_, (pss_cons (ps_if (pt_not (pt_val (pe_call (ok_is_list X) (hr.mono (by decide)) rfl X.d_is_list.mg X.d_is_list.F.kp X.d_is_list.b .nil pass0 (pa_cons (pv 0) (pa_cons pe_int (pa_cons (pe_gc rfl X.c_MOST_PROGRAMS) pa_nil)))))) (pss_one ps_never) pss_nil) (pss_one (ps_for PassesOwn.never rfl (QB.pi_enumK K (by rfl) X.n_enumerate (pa_cons (pv 0) pa_nil)) (pg_tup (by rfl) (pgs_cons (pg_name (i := 1) nd rfl (Or.inl rfl)) (pgs_cons (pg_name (i := 2) nd rfl (Or.inl rfl)) (pgs_nil)))) (pss_one (ps_if (PW.pt (pw_or (pt_not (pt_val (pe_callB (QB.call_isiK K) (by rfl) X.n_isinstance QB.bo_isinstance (pa_cons (pv 2) (pa_cons (pe_glob (v := .ref X.c_Eater) rfl X.m_Eater rfl) pa_nil))))) (pw_or1 (pt_cmpR (QB.op_neDK K hr.units) (pe_meth0 (pv 2) X.cl_Eater X.h_Eater_tags (ok_Eater_tags X) (hr.mono (by decide)) X.d_Eater_tags.b .nil pass0) (pe_meth0 (pe_ix (QB.ix_listK K) (pv 0) pe_int (fun _ _ => rfl)) X.cl_Eater X.h_Eater_tags (ok_Eater_tags X) (hr.mono (by decide)) X.d_Eater_tags.b .nil pass0) (nomark _))))) (pss_one ps_never) pss_nil))))), ?_⟩
    try dsimp only [Cx.nox, Cx.wish, cxOf]
    have hel := hp.len
    refine ⟨_, rfl, p, _, _, _, rfl, hp.lst, _, rfl, ?_⟩
    rw [decide_eq_true (by rw [List.length_map]; omega)]
    refine iteF ?_
    refine ⟨_, rfl, _, _, rfl, SqL.of hp.lst, ?_⟩
    refine for_it (walk_enum (K := K) (a := p) (xs := es.map V.ref)) (fun i σ H' => ∃ v1 v2, σ = [some (.ref p), v1, v2] ∧ Same H H') ⟨none, none, rfl, Same.refl H⟩ (fun i σ H' _ ⟨_, _, _, s1⟩ => SqL.of (s1 _ _ hp.lst)) ?_ ?_
    · rintro i v σ H1 H2 hi ⟨v1, v2, rfl, s1⟩ ⟨tp, x1, x2, rfl, ntp, rfl, e1, e2⟩
      cases e1
      rw [List.length_map] at hi
      have e2 : (es.map V.ref)[i]? = some x2 := e2
      obtain ⟨e, he, hE⟩ := (hp.same s1).get (k := i) (by omega)
      rw [List.getElem?_map, he] at e2
      cases e2
      obtain ⟨e0, he0, hE0⟩ := (hp.same s1).get (k := 0) (by omega)
      have s2 := Same.new (Same.refl H1) (o := .tup [.int (i : Int), .ref e]) ntp
      have hE := hE.same s2
      have hE0 := hE0.same s2
      have hl := s2 _ _ (s1 _ _ hp.lst)
      have tp8 : (upd H1 tp (.tup [.int (i : Int), .ref e])) tp = some (.tup [.int (i : Int), .ref e]) := upd_same
      have s12 := s1.trans s2
      generalize upd H1 tp (.tup [.int (i : Int), .ref e]) = H2 at s2 hE hE0 hl tp8 s12 ⊢
      refine ⟨tp, _, rfl, SqT.of tp8, rfl, _, _, rfl, _, _, rfl, rfl, ?_⟩
      obtain ⟨dx, a1, b1, g1, g2, g3⟩ := hE
      obtain ⟨dx2, a2, b2, f1, f2, f3⟩ := hE0
      refine ⟨_, rfl, ?_⟩
      dsimp only [tNil, tCons]
      refine ⟨_, _, _, _, true, rfl, .own _, .base (X.oc_Eater.ty X.cl_Eater g1), QO.OwnC.self, true, rfl, ?_⟩
      refine iteF ?_
      refine ⟨_, rfl, e, dx, _, rfl, g1, rfl, ?_⟩
      refine ⟨e, tags, _, rfl, ⟨dx, a1, b1, g1, g2, g3⟩, fun p1 n1 => ?_⟩
      have t1 := same_new (o := .lst (vS tags)) n1
      have w1 : WordAt (upd H2 p1 (.lst (vS tags))) p1 tags := upd_same
      generalize upd H2 p1 (.lst (vS tags)) = H3 at t1 w1 ⊢
      refine ⟨_, rfl, p, _, _, _, rfl, rfl, SqL.of (t1 _ _ hl), atI_nat (j := 0) (v := V.ref e0) (by rw [List.getElem?_map, he0]; rfl), ?_⟩
      refine ⟨e0, dx2, _, rfl, t1 _ _ f1, rfl, ?_⟩
      refine ⟨e0, tags, _, rfl, ⟨dx2, a2, b2, t1 _ _ f1, Same.word t1 f2, Same.form t1 f3⟩, fun p2 n2 => ?_⟩
      have t2 := same_new (o := .lst (vS tags)) n2
      have w2 : WordAt (upd H3 p2 (.lst (vS tags))) p2 tags := upd_same
      refine ne_wd (Same.word t2 w1) w2 ok ok ?_
      refine ⟨_, rfl, ?_⟩
      rw [decide_eq_true rfl]
      exact iteF ⟨_, _, rfl, s12.trans (t1.trans t2)⟩
    · rintro σ H1 ⟨v1, v2, rfl, s1⟩
      exact k H1 s1
def spSameTags (C : Addr) : Sp := fun vs H Q _ => ∃ (e f : Addr) (tags : Word) (G G2 : Form), vs = [.ref e, .ref f] ∧ EatAt C H e tags G ∧ EatAt C H f tags G2 ∧ OkWord tags ∧ ∀ H', Same H H' → Q .non H'
theorem ok_check_same_tags (X : TX K mg) : FnOk P w K mg base CX0 2 X.d_check_same_tags.a X.d_check_same_tags.fd ["one", "other"] (spSameTags X.c_Eater) := by
  have nd := sc_check_same_tags.nd
  refine X.d_check_same_tags.F.ok sc_check_same_tags (fun vs H Q E h => ?_) (fun cdv A outer s H vs Q E hr h => ?_)
  · obtain ⟨e, f, tags, G, G2, rfl, _⟩ := h
    rfl
  · obtain ⟨e, f, tags, G, G2, rfl, he, hf, ok, k⟩ := h
    refine ⟨_, (pss_one (ps_if (PW.pt (pw_or (pt_not (pt_val (pe_callB (QB.call_isiK K) (by rfl) X.n_isinstance QB.bo_isinstance (pa_cons (pv 1) (pa_cons (pe_glob (v := .ref X.c_Eater) rfl X.m_Eater rfl) pa_nil))))) (pw_or1 (pt_cmpR (QB.op_neDK K hr.units) (pe_meth0 (pv 1) X.cl_Eater X.h_Eater_tags (ok_Eater_tags X) (hr.mono (by decide)) X.d_Eater_tags.b .nil pass0) (pe_meth0 (pv 0) X.cl_Eater X.h_Eater_tags (ok_Eater_tags X) (hr.mono (by decide)) X.d_Eater_tags.b .nil pass0) (nomark _))))) (pss_one ps_never) pss_nil)), ?_⟩
    try dsimp only [Cx.nox, Cx.wish, cxOf]
    obtain ⟨dx, a1, b1, g1, g2, g3⟩ := he
    obtain ⟨dx2, a2, b2, f1, f2, f3⟩ := hf
    refine ⟨_, rfl, ?_⟩
    dsimp only [tNil, tCons]
    refine ⟨_, _, _, _, true, rfl, .own _, .base (X.oc_Eater.ty X.cl_Eater f1), QO.OwnC.self, true, rfl, ?_⟩
    refine iteF ?_
    refine ⟨_, rfl, f, dx2, _, rfl, f1, rfl, ?_⟩
    refine ⟨f, tags, G2, rfl, ⟨dx2, a2, b2, f1, f2, f3⟩, fun p1 n1 => ?_⟩
    have s1 := same_new (o := .lst (vS tags)) n1
    have w1 : WordAt (upd H p1 (.lst (vS tags))) p1 tags := upd_same
    generalize upd H p1 (.lst (vS tags)) = H1 at s1 w1 ⊢
    refine ⟨_, rfl, e, dx, _, rfl, s1 _ _ g1, rfl, ?_⟩
    refine ⟨e, tags, G, rfl, ⟨dx, a1, b1, s1 _ _ g1, Same.word s1 g2, Same.form s1 g3⟩, fun p2 n2 => ?_⟩
    have s2 := same_new (o := .lst (vS tags)) n2
    have w2 : WordAt (upd H1 p2 (.lst (vS tags))) p2 tags := upd_same
    refine ne_wd (Same.word s2 w1) w2 ok ok ?_
    refine ⟨_, rfl, ?_⟩
    rw [decide_eq_true rfl]
    exact iteF (k _ (s1.trans s2))
/-! mailboxes -/
def boxFs (pl ke ll : Addr) : List (Str × V) := [("_programs", .ref pl), ("_key", .ref ke), ("_letters", .ref ll)]
structure FmOk (tags : Word) (G : Form) (c : Nat) : Prop where
  good : Good tags G
  words : WordsOk tags G
  len : ∀ s ∈ G, s.1.length ≤ c
structure BoxOk (tags : Word) (Gs : List Form) (Gk : Form) : Prop where
  to : TagsOk tags
  gs : ∀ G ∈ Gs, FmOk tags G 2
  gk : FmOk tags Gk 1
  pos : 1 ≤ Gs.length
  few : Gs.length ≤ 6
def WsOk (tags : Word) (c : Nat) (ws : List Word) : Prop := ∀ wd ∈ ws, (∀ t ∈ wd, t ∈ tags) ∧ wd.length ≤ c
/-- a letter: its subject and its key -/
def LetAt (H : Hp) (tags : Word) (Gk : Form) (t : Addr) (wd : Word) : Prop := ∃ a b, H t = some (.tup [.ref a, .ref b]) ∧ WordAt H a wd ∧ WordAt H b (make tags Gk wd)
theorem LetAt.same {H H' : Hp} {tags : Word} {Gk : Form} {t : Addr} {wd : Word} (h : LetAt H tags Gk t wd) (s : Same H H') : LetAt H' tags Gk t wd := by
  obtain ⟨a, b, h1, h2, h3⟩ := h
  exact ⟨a, b, s _ _ h1, Same.word s h2, Same.word s h3⟩
structure BoxA (CE CM : Addr) (M : List Addr) (H : Hp) (m ll : Addr) (tags : Word) (Gs : List Form) (Gk : Form) (ws : List Word) (dx pl ke : Addr) (es ts : List Addr) : Prop where
  obj : hide M H m = some (.ins CM dx (boxFs pl ke ll))
  pro : ProgsAt CE (hide M H) pl es tags Gs
  key : EatAt CE (hide M H) ke tags Gk
  lst : H ll = some (.lst (ts.map V.ref))
  all : Paired (LetAt (hide M H) tags Gk) ts ws
  mem : ll ∈ M
def BoxAt (CE CM : Addr) (M : List Addr) (H : Hp) (m ll : Addr) (tags : Word) (Gs : List Form) (Gk : Form) (ws : List Word) : Prop := ∃ dx pl ke es ts, BoxA CE CM M H m ll tags Gs Gk ws dx pl ke es ts
theorem BoxA.move {CE CM : Addr} {M : List Addr} {H H' : Hp} {m ll : Addr} {tags : Word} {Gs : List Form} {Gk : Form} {ws : List Word} {dx pl ke : Addr} {es ts : List Addr} (b : BoxA CE CM M H m ll tags Gs Gk ws dx pl ke es ts) (s : Same (hide M H) (hide M H')) (e : H' ll = H ll) : BoxA CE CM M H' m ll tags Gs Gk ws dx pl ke es ts :=
  ⟨s _ _ b.obj, b.pro.same s, b.key.same s, e.trans b.lst, L2.Paired.mapP b.all fun _ _ z => z.same s, b.mem⟩
theorem BoxAt.move {CE CM : Addr} {M : List Addr} {H H' : Hp} {m ll : Addr} {tags : Word} {Gs : List Form} {Gk : Form} {ws : List Word} (b : BoxAt CE CM M H m ll tags Gs Gk ws) (s : Same (hide M H) (hide M H')) (e : H' ll = H ll) : BoxAt CE CM M H' m ll tags Gs Gk ws := by
  obtain ⟨dx, pl, ke, es, ts, b⟩ := b
  exact ⟨dx, pl, ke, es, ts, b.move s e⟩
theorem BoxA.same {CE CM : Addr} {M : List Addr} {H H' : Hp} {m ll : Addr} {tags : Word} {Gs : List Form} {Gk : Form} {ws : List Word} {dx pl ke : Addr} {es ts : List Addr} (b : BoxA CE CM M H m ll tags Gs Gk ws dx pl ke es ts) (s : Same H H') : BoxA CE CM M H' m ll tags Gs Gk ws dx pl ke es ts :=
  b.move (hide_same s) (by rw [s _ _ b.lst, b.lst])
theorem BoxAt.same {CE CM : Addr} {M : List Addr} {H H' : Hp} {m ll : Addr} {tags : Word} {Gs : List Form} {Gk : Form} {ws : List Word} (b : BoxAt CE CM M H m ll tags Gs Gk ws) (s : Same H H') : BoxAt CE CM M H' m ll tags Gs Gk ws := by
  obtain ⟨dx, pl, ke, es, ts, b⟩ := b
  exact ⟨dx, pl, ke, es, ts, b.same s⟩
def boxKeys (tags : Word) (Gk : Form) (ws : List Word) : List Word := ws.map (make tags Gk)
theorem boxKeys_get {tags : Word} {Gk : Form} {ws : List Word} {i : Nat} (hi : i < ws.length) : (boxKeys tags Gk ws).getD i [] = make tags Gk (ws[i]) := by
  unfold boxKeys
  rw [List.getD_eq_getElem?_getD, List.getElem?_map, List.getElem?_eq_getElem hi]
  rfl
theorem BoxA.get {CE CM : Addr} {M : List Addr} {H : Hp} {m ll : Addr} {tags : Word} {Gs : List Form} {Gk : Form} {ws : List Word} {dx pl ke : Addr} {es ts : List Addr} (b : BoxA CE CM M H m ll tags Gs Gk ws dx pl ke es ts) {i : Nat} (hi : i < ws.length) :
    ∃ t x y, ts[i]? = some t ∧ H t = some (.tup [.ref x, .ref y]) ∧ WordAt H x (ws[i]) ∧ WordAt H y (make tags Gk (ws[i])) := by
  obtain ⟨t, h1, x, y, h2, h3, h4⟩ := paired_get b.all (List.getElem?_eq_getElem hi)
  exact ⟨t, x, y, h1, hide_sub _ _ h2, Same.word hide_sub h3, Same.word hide_sub h4⟩
theorem BoxA.len {CE CM : Addr} {M : List Addr} {H : Hp} {m ll : Addr} {tags : Word} {Gs : List Form} {Gk : Form} {ws : List Word} {dx pl ke : Addr} {es ts : List Addr} (b : BoxA CE CM M H m ll tags Gs Gk ws dx pl ke es ts) : ts.length = ws.length := Paired.length b.all
theorem WsOk.get {tags : Word} {c : Nat} {ws : List Word} (h : WsOk tags c ws) {i : Nat} (hi : i < ws.length) : (∀ t ∈ ws[i], t ∈ tags) ∧ (ws[i]).length ≤ c := h _ (List.getElem_mem hi)
theorem BoxOk.key_ok {tags : Word} {Gs : List Form} {Gk : Form} (ok : BoxOk tags Gs Gk) {wd : Word} (h : ∀ t ∈ wd, t ∈ tags) : OkWord (make tags Gk wd) := fun t ht => (ok.to.names t (make_sub ok.gk.words h t ht)).txt
def spLenM (CE CM : Addr) : Sp := fun vs H Q _ => ∃ (M : List Addr) (m ll : Addr) (tags : Word) (Gs : List Form) (Gk : Form) (ws : List Word), vs = [.ref m] ∧ BoxAt CE CM M H m ll tags Gs Gk ws ∧ Q (.int (ws.length : Int)) H
theorem ok_Mailbox___len__ (X : TX K mg) : FnOk P w K mg base CX0 1 X.d_Mailbox___len__.a X.d_Mailbox___len__.fd ["self"] (spLenM X.c_Eater X.c_Mailbox) := by
  have nd := sc_Mailbox___len__.nd
  refine X.d_Mailbox___len__.F.ok sc_Mailbox___len__ (fun vs H Q E h => ?_) (fun cdv A outer s H vs Q E hr h => ?_)
  · obtain ⟨M, m, ll, tags, Gs, Gk, ws, rfl, _⟩ := h
    rfl
  · obtain ⟨M, m, ll, tags, Gs, Gk, ws, rfl, ⟨dx, pl, ke, es, ts, b⟩, q⟩ := h
    refine ⟨_, (pss_one (ps_ret (pe_callB (QB.call_lenK K) (by rfl) X.n_len PySem.boot_len (pa_cons (QB.pe_fldK K (pv 0) rfl) pa_nil)))), ?_⟩
    try dsimp only [Cx.nox, Cx.wish, cxOf]
    refine ⟨_, rfl, m, _, _, _, _, rfl, hide_sub _ _ b.obj, X.cl_Mailbox, X.na_Mailbox__letters, rfl, ?_⟩
    dsimp only [tNil]
    refine ⟨_, _, rfl, .inl (SqL.of b.lst), ?_⟩
    rw [List.length_map, b.len]
    exact q
/-- a letter's subject, anew -/
def spGetM (CE CM : Addr) (f : Word → Form → List Word → Nat → Word) : Sp := fun vs H Q _ => ∃ (M : List Addr) (m ll : Addr) (tags : Word) (Gs : List Form) (Gk : Form) (ws : List Word) (i : Nat), vs = [.ref m, .int (i : Int)] ∧ BoxAt CE CM M H m ll tags Gs Gk ws ∧ i < ws.length ∧
  ∀ p H', Same H H' → H p = none → WordAt H' p (f tags Gk ws i) → Q (.ref p) H'
theorem ok_Mailbox___getitem__ (X : TX K mg) : FnOk P w K mg base CX0 4 X.d_Mailbox___getitem__.a X.d_Mailbox___getitem__.fd ["self", "number"] (spGetM X.c_Eater X.c_Mailbox fun _ _ ws i => ws.getD i []) := by
  have nd := sc_Mailbox___getitem__.nd
  refine X.d_Mailbox___getitem__.F.ok sc_Mailbox___getitem__ (fun vs H Q E h => ?_) (fun cdv A outer s H vs Q E hr h => ?_)
  · obtain ⟨M, m, ll, tags, Gs, Gk, ws, i, rfl, _⟩ := h
    rfl
  · obtain ⟨M, m, ll, tags, Gs, Gk, ws, i, rfl, ⟨dx, pl, ke, es, ts, b⟩, hi, q⟩ := h
    refine ⟨_, (pss_cons (ps_expr (pe_call (ok_check_number X) (hr.mono (by decide)) rfl X.d_check_number.mg X.d_check_number.F.kp X.d_check_number.b .nil pass0 (pa_cons (pv 1) (pa_cons (pe_op op_sub (pe_callB (QB.call_lenK K) (by rfl) X.n_len PySem.boot_len (pa_cons (QB.pe_fldK K (pv 0) rfl) pa_nil)) pe_int) pa_nil)))) (pss_one (ps_ret (pe_callTy (QB.call_listK K) (by rfl) X.n_list QB.bo_list (pa_cons (pe_ix (QB.ix_tupK K) (pe_ix (QB.ix_listK K) (QB.pe_fldK K (pv 0) rfl) (pv 1) (fun _ _ => rfl)) pe_int (fun _ _ => rfl)) pa_nil))))), ?_⟩
    try dsimp only [Cx.nox, Cx.wish, cxOf]
    have ho := hide_sub _ _ b.obj
    obtain ⟨t, x, y, h1, h2, h3, h4⟩ := b.get hi
    refine ⟨_, rfl, _, rfl, m, _, _, _, _, rfl, ho, X.cl_Mailbox, X.na_Mailbox__letters, rfl, ?_⟩
    refine ⟨_, _, rfl, .inl (SqL.of b.lst), _, _, rfl, rfl, ?_⟩
    refine ⟨_, _, rfl, by omega, by rw [List.length_map, b.len]; omega, ?_⟩
    refine ⟨_, rfl, m, _, _, _, _, rfl, ho, X.cl_Mailbox, X.na_Mailbox__letters, rfl, ?_⟩
    refine ⟨_, rfl, _, _, _, _, rfl, rfl, SqL.of b.lst, atI_nat (by rw [List.getElem?_map, h1]; rfl), ?_⟩
    refine ⟨t, _, 0, _, rfl, rfl, SqT.of h2, rfl, ?_⟩
    refine ⟨x, _, rfl, .inl (SqL.of h3), fun p hp => ?_⟩
    refine q p _ (same_new hp) hp ?_
    show upd H p _ p = _
    rw [upd_same]
    show _ = some (HO.lst (vS (ws.getD i [])))
    rw [List.getD_eq_getElem?_getD, List.getElem?_eq_getElem hi]
    rfl
theorem ok_Mailbox_key_of (X : TX K mg) : FnOk P w K mg base CX0 4 X.d_Mailbox_key_of.a X.d_Mailbox_key_of.fd ["self", "number"] (spGetM X.c_Eater X.c_Mailbox fun tags Gk ws i => (boxKeys tags Gk ws).getD i []) := by
  have nd := sc_Mailbox_key_of.nd
  refine X.d_Mailbox_key_of.F.ok sc_Mailbox_key_of (fun vs H Q E h => ?_) (fun cdv A outer s H vs Q E hr h => ?_)
  · obtain ⟨M, m, ll, tags, Gs, Gk, ws, i, rfl, _⟩ := h
    rfl
  · obtain ⟨M, m, ll, tags, Gs, Gk, ws, i, rfl, ⟨dx, pl, ke, es, ts, b⟩, hi, q⟩ := h
    refine ⟨_, (pss_cons (ps_expr (pe_call (ok_check_number X) (hr.mono (by decide)) rfl X.d_check_number.mg X.d_check_number.F.kp X.d_check_number.b .nil pass0 (pa_cons (pv 1) (pa_cons (pe_op op_sub (pe_callB (QB.call_lenK K) (by rfl) X.n_len PySem.boot_len (pa_cons (QB.pe_fldK K (pv 0) rfl) pa_nil)) pe_int) pa_nil)))) (pss_one (ps_ret (pe_callTy (QB.call_listK K) (by rfl) X.n_list QB.bo_list (pa_cons (pe_ix (QB.ix_tupK K) (pe_ix (QB.ix_listK K) (QB.pe_fldK K (pv 0) rfl) (pv 1) (fun _ _ => rfl)) pe_int (fun _ _ => rfl)) pa_nil))))), ?_⟩
    try dsimp only [Cx.nox, Cx.wish, cxOf]
    have ho := hide_sub _ _ b.obj
    obtain ⟨t, x, y, h1, h2, h3, h4⟩ := b.get hi
    refine ⟨_, rfl, _, rfl, m, _, _, _, _, rfl, ho, X.cl_Mailbox, X.na_Mailbox__letters, rfl, ?_⟩
    refine ⟨_, _, rfl, .inl (SqL.of b.lst), _, _, rfl, rfl, ?_⟩
    refine ⟨_, _, rfl, by omega, by rw [List.length_map, b.len]; omega, ?_⟩
    refine ⟨_, rfl, m, _, _, _, _, rfl, ho, X.cl_Mailbox, X.na_Mailbox__letters, rfl, ?_⟩
    refine ⟨_, rfl, _, _, _, _, rfl, rfl, SqL.of b.lst, atI_nat (by rw [List.getElem?_map, h1]; rfl), ?_⟩
    refine ⟨t, _, 1, _, rfl, rfl, SqT.of h2, rfl, ?_⟩
    refine ⟨y, _, rfl, .inl (SqL.of h4), fun p hp => ?_⟩
    refine q p _ (same_new hp) hp ?_
    show upd H p _ p = _
    rw [upd_same]
    show _ = some (HO.lst (vS ((boxKeys tags Gk ws).getD i [])))
    rw [boxKeys_get hi]
/-- the numbers of the letters with a key -/
def spWithKey (CE CM : Addr) : Sp := fun vs H Q _ => ∃ (M : List Addr) (m ll k0 : Addr) (tags : Word) (Gs : List Form) (Gk : Form) (ws : List Word) (kw : Word), vs = [.ref m, .ref k0] ∧ BoxAt CE CM M H m ll tags Gs Gk ws ∧ BoxOk tags Gs Gk ∧ WsOk tags 1000 ws ∧ WordAt H k0 kw ∧ OkWord kw ∧ ws.length ≤ 1000 ∧
  ∀ p H', Same H H' → H p = none → H' p = some (.lst (vN (withKey (boxKeys tags Gk ws) ws.length kw))) → Q (.ref p) H'
theorem ok_Mailbox__with_key (X : TX K mg) : FnOk P w K mg base CX0 1 X.d_Mailbox__with_key.a X.d_Mailbox__with_key.fd ["self", "key"] (spWithKey X.c_Eater X.c_Mailbox) := by
  have nd := sc_Mailbox__with_key.nd
  refine X.d_Mailbox__with_key.F.ok sc_Mailbox__with_key (fun vs H Q E h => ?_) (fun cdv A outer s H vs Q E hr h => ?_)
  · obtain ⟨M, m, ll, k0, tags, Gs, Gk, ws, kw, rfl, _⟩ := h
    rfl
  · obtain ⟨M, m, ll, k0, tags, Gs, Gk, ws, kw, rfl, ⟨dx, pl, ke, es, ts, b⟩, ok, wo, hk0, okw, hl, q⟩ := h
    refine ⟨_, (pss_one (ps_ret (pe_lc (own := [("number", 2), ("_", 3), ("other", 4)]) (g := gTup K 2 (gCons (gName 2) (gCons (gTup K 2 (gCons (gName 3) (gCons (gName 4) (gNil)))) (gNil)))) rfl nd (QB.pi_enumK K (by rfl) X.n_enumerate (pa_cons (QB.pe_fldK K (pv 0) rfl) pa_nil)) (blkOk_by (N := ["self", "key", "number", "_", "other"]) (sc := defScope s_Mailbox__with_key) (by decide +kernel)) (fun _ _ _ _ _ => pg_tup (by rfl) (pgs_cons (pg_name (i := 2) nd rfl (Or.inl rfl)) (pgs_cons (pg_tup (by rfl) (pgs_cons (pg_name (i := 3) nd rfl (Or.inl rfl)) (pgs_cons (pg_name (i := 4) nd rfl (Or.inl rfl)) (pgs_nil)))) (pgs_nil)))) (fun _ _ _ _ _ => pts_one (pt_cmpR (QB.op_eqDK K hr.units) (pv 4) (pv 1) (nomark _))) (fun _ _ _ _ _ => (pv 2))))), ?_⟩
    try dsimp only [Cx.nox, Cx.wish, cxOf]
    have ho := hide_sub _ _ b.obj
    refine ⟨_, rfl, m, _, _, _, _, rfl, ho, X.cl_Mailbox, X.na_Mailbox__letters, rfl, ?_⟩
    dsimp only [tNil]
    refine ⟨_, _, rfl, SqL.of b.lst, fun D hD => ?_⟩
    refine lc_filter (walk_enum (K := K) (a := ll) (xs := ts.map V.ref)) hD (by rw [List.length_map, b.len]; omega) (fun H' s' => SqL.of (s' _ _ b.lst)) (fun i => .int (i : Int)) (fun i => decide ((boxKeys tags Gk ws).getD i [] = kw)) ?_ ?_
    · rintro i v H2 H3 kk N hi s2 ⟨tp, x1, x2, rfl, ntp, rfl, e1, e2⟩ y1 y2
      cases e1
      rw [List.length_map, b.len] at hi
      obtain ⟨t, x, y, h1, h2, h3, h4⟩ := (b.same s2).get hi
      have e2 : (ts.map V.ref)[i]? = some x2 := e2
      rw [List.getElem?_map, h1] at e2
      cases e2
      have s3 : Same H2 (upd H2 tp (.tup [.int (i : Int), .ref t])) := same_new ntp
      refine ⟨tp, _, rfl, SqT.of upd_same, rfl, _, _, rfl, _, _, rfl, ⟨t, _, rfl, SqT.of (s3 _ _ h2), rfl, _, _, rfl, _, _, rfl, rfl, rfl, ?_⟩⟩
      refine ⟨rfl, _, rfl, _, rfl, eq_enc enc_word (by decide) (dp_wd (Same.word s3 h4)) (dp_wd (Same.word (s2.trans s3) hk0)) (ok.key_ok (wo.get hi).1) okw ?_⟩
      rw [boxKeys_get hi] at y1 y2
      by_cases e : make tags Gk (ws[i]) = kw
      · rw [decide_eq_true e]
        exact ⟨_, rfl, iteT ⟨_, rfl, y1 (decide_eq_true e) _ s3⟩⟩
      · rw [decide_eq_false e]
        exact ⟨_, rfl, iteF (y2 (decide_eq_false e) _ s3)⟩
    · intro H2 s2 h2
      refine q D H2 s2 hD ?_
      rw [h2, List.length_map, b.len]
      rfl
theorem ok_Mailbox_talk (X : TX K mg) : FnOk P w K mg base CX0 5 X.d_Mailbox_talk.a X.d_Mailbox_talk.fd ["self", "number"]
    (fun vs H Q _ => ∃ (M : List Addr) (m ll : Addr) (tags : Word) (Gs : List Form) (Gk : Form) (ws : List Word) (i : Nat), vs = [.ref m, .int (i : Int)] ∧ BoxAt X.c_Eater X.c_Mailbox M H m ll tags Gs Gk ws ∧ BoxOk tags Gs Gk ∧ WsOk tags 1000 ws ∧ i < ws.length ∧ ws.length ≤ 1000 ∧
      ∀ p H', Same H H' → H p = none → H' p = some (.lst (vN (withKey (boxKeys tags Gk ws) ws.length ((boxKeys tags Gk ws).getD i [])))) → Q (.ref p) H') := by
  have nd := sc_Mailbox_talk.nd
  refine X.d_Mailbox_talk.F.ok sc_Mailbox_talk (fun vs H Q E h => ?_) (fun cdv A outer s H vs Q E hr h => ?_)
  · obtain ⟨M, m, ll, tags, Gs, Gk, ws, i, rfl, _⟩ := h
    rfl
  · obtain ⟨M, m, ll, tags, Gs, Gk, ws, i, rfl, b, ok, wo, hi, hl, q⟩ := h
    refine ⟨_, (pss_one (ps_ret (pe_meth (pv 0) X.cl_Mailbox X.h_Mailbox__with_key (ok_Mailbox__with_key X) (hr.mono (by decide)) X.d_Mailbox__with_key.b .nil pass0 (pa_cons (pe_meth (pv 0) X.cl_Mailbox X.h_Mailbox_key_of (ok_Mailbox_key_of X) (hr.mono (by decide)) X.d_Mailbox_key_of.b .nil pass0 (pa_cons (pv 1) pa_nil)) pa_nil)))), ?_⟩
    try dsimp only [Cx.nox, Cx.wish, cxOf]
    obtain ⟨dx, pl, ke, es, ts, b⟩ := b
    have ho := hide_sub _ _ b.obj
    refine ⟨_, rfl, m, dx, _, rfl, ho, rfl, ?_⟩
    refine ⟨_, rfl, m, dx, _, rfl, ho, rfl, ?_⟩
    refine ⟨_, rfl, M, m, ll, tags, Gs, Gk, ws, i, rfl, ⟨dx, pl, ke, es, ts, b⟩, hi, fun p H1 s1 np hp => ?_⟩
    refine ⟨M, m, ll, p, tags, Gs, Gk, ws, _, rfl, ⟨dx, pl, ke, es, ts, b.same s1⟩, ok, wo, hp, ?_, hl, fun p2 H2 s2 n2 h2 => q p2 H2 (s1.trans s2) (s1.free n2) h2⟩
    show OkWord ((boxKeys tags Gk ws).getD i [])
    rw [boxKeys_get hi]
    exact ok.key_ok (wo.get hi).1
end
end Law
end

section
set_option Elab.async false
set_option linter.all false
set_option maxRecDepth 100000
set_option maxHeartbeats 4000000
namespace Law
open PySem PySem.Spec PyProof.Rows L2 LamX QB QM
section
variable {P : Program} {w : World} {K : PySem.W.Frag} {mg : Str → Option Value} {base : Heap}
theorem not_in {M : List Addr} {H : Hp} {q : Addr} (h : ∀ b ∈ M, H b ≠ none) (n : H q = none) : q ∉ M := fun z => h q z n
/-- a list that is in M changes -/
theorem hide_mut {M : List Addr} {H : Hp} {a : Addr} {o : HO} (h : a ∈ M) : Same (hide M H) (hide M (upd H a o)) := fun b u z => by
  obtain ⟨n, z⟩ := hide_get z
  exact hide_at n ((upd_ne fun (e : b = a) => n (by rw [e]; exact h)).trans z)
theorem exc_mut {H : Hp} {a : Addr} {o : HO} : Exc [a] H (upd H a o) := fun b u n z => (upd_ne (by simpa using n)).trans z
/-- what is told of a letter that came -/
def Came (CE CM : Addr) (M : List Addr) (H : Hp) (m ll : Addr) (tags : Word) (Gs : List Form) (Gk : Form) (ws : List Word) (wd : Word) (Q : VK) : Prop := ∀ H', BoxAt CE CM M H' m ll tags Gs Gk (ws ++ [wd]) → Exc [ll] H H' → H' ll ≠ none → Q (.int (ws.length : Int)) H'
def spCome (CE CM : Addr) : Sp := fun vs H Q _ => ∃ (M : List Addr) (m ll a : Addr) (tags : Word) (Gs : List Form) (Gk : Form) (ws : List Word) (wd : Word), vs = [.ref m, .ref a] ∧ BoxAt CE CM M H m ll tags Gs Gk ws ∧ BoxOk tags Gs Gk ∧ (∀ b ∈ M, H b ≠ none) ∧
  WordAt H a wd ∧ a ∉ M ∧ (∀ t ∈ wd, t ∈ tags) ∧ wd.length ≤ 200 ∧ ws.length ≤ 1000 ∧ Came CE CM M H m ll tags Gs Gk ws wd Q
theorem ok_Mailbox__come (X : TX K mg) : FnOk P w K mg base CX0 5 X.d_Mailbox__come.a X.d_Mailbox__come.fd ["self", "subject"] (spCome X.c_Eater X.c_Mailbox) := by
  have nd := sc_Mailbox__come.nd
  refine X.d_Mailbox__come.F.ok sc_Mailbox__come (fun vs H Q E h => ?_) (fun cdv A outer s H vs Q E hr h => ?_)
  · obtain ⟨M, m, ll, a, tags, Gs, Gk, ws, wd, rfl, _⟩ := h
    rfl
  · obtain ⟨M, m, ll, a, tags, Gs, Gk, ws, wd, rfl, ⟨dx, pl, ke, es, ts, b⟩, ok, T0, ha, aM, hin, hwd, hl, q⟩ := h
    refine ⟨_, (pss_cons (ps_expr (QB.pe_bmK K PySem.F.plainAttrs_list PySem.F.slot_list_append PySem.F.type_list_append mt_append (QB.pe_fldK K (pv 0) rfl) (pa_cons (pe_tup (pa_cons (pv 1) (pa_cons (pe_meth (QB.pe_fldK K (pv 0) rfl) X.cl_Eater X.h_Eater_on (ok_Eater_on X) (hr.mono (by decide)) X.d_Eater_on.b .nil pass0 (pa_cons (pv 1) pa_nil)) pa_nil))) pa_nil))) (pss_one (ps_ret (pe_op op_sub (pe_callB (QB.call_lenK K) (by rfl) X.n_len PySem.boot_len (pa_cons (QB.pe_fldK K (pv 0) rfl) pa_nil)) pe_int)))), ?_⟩
    try dsimp only [Cx.nox, Cx.wish, cxOf]
    have ho := hide_sub _ _ b.obj
    have hke := b.key.same hide_sub
    obtain ⟨dx2, a2, b2, k1, k2, k3⟩ := hke
    have htl := b.len
    refine ⟨_, rfl, m, _, _, _, _, rfl, ho, X.cl_Mailbox, X.na_Mailbox__letters, rfl, ?_⟩
    refine ⟨.inl ⟨rfl, _, SqL.of b.lst⟩, ?_⟩
    refine ⟨_, rfl, ?_⟩
    refine ⟨_, rfl, m, _, _, _, _, rfl, ho, X.cl_Mailbox, X.na_Mailbox__key, rfl, ?_⟩
    refine ⟨ke, dx2, _, rfl, k1, rfl, ?_⟩
    refine ⟨_, rfl, ke, a, tags, Gk, wd, rfl, ⟨dx2, a2, b2, k1, k2, k3⟩, ha, ok.gk.good, hin, hwd, fun s hs => by have := ok.gk.len s hs; omega, fun p H1 s1 np hp => ?_⟩
    refine ⟨by show 2 ≤ sizeLine; decide, fun t nt => ?_⟩
    have s2 : Same H1 (upd H1 t (.tup [.ref a, .ref p])) := same_new nt
    have s12 := s1.trans s2
    have pM := not_in T0 np
    have tM := not_in T0 (s1.free nt)
    have b2 := b.same s12
    have ht : (upd H1 t (.tup [.ref a, .ref p])) t = some (.tup [.ref a, .ref p]) := upd_same
    have hp := s2 _ _ hp
    have ha := s12 _ _ ha
    generalize upd H1 t (.tup [.ref a, .ref p]) = H2 at s2 s12 b2 ht hp ha ⊢
    refine ⟨ll, _, _, rfl, rfl, b2.lst, sz_lt (by rw [List.length_map, htl]; omega), ?_⟩
    have hm : m ≠ ll := fun z => (hide_get b2.obj).1 (z ▸ b2.mem)
    have bb : BoxA X.c_Eater X.c_Mailbox M (upd H2 ll (.lst (ts.map V.ref ++ [.ref t]))) m ll tags Gs Gk (ws ++ [wd]) dx pl ke es (ts ++ [t]) := by
      have hs : Same (hide M H2) (hide M (upd H2 ll (.lst (ts.map V.ref ++ [.ref t])))) := hide_mut b2.mem
      exact ⟨hs _ _ b2.obj, b2.pro.same hs, b2.key.same hs, by rw [upd_same, List.map_append]; rfl, Paired.snoc (L2.Paired.mapP b2.all fun _ _ z => z.same hs) ⟨a, p, hs _ _ (hide_at tM ht), hs _ _ (hide_at aM ha), hs _ _ (hide_at pM hp)⟩, b2.mem⟩
    refine ⟨_, rfl, m, _, _, _, _, rfl, (upd_ne hm).trans (s12 _ _ ho), X.cl_Mailbox, X.na_Mailbox__letters, rfl, ?_⟩
    refine ⟨_, _, rfl, .inl (SqL.of upd_same), _, _, rfl, rfl, ?_⟩
    have e : (((ts.map V.ref ++ [V.ref t]).length : Nat) : Int) - 1 = (ws.length : Int) := by
      rw [List.length_append, List.length_map, htl]
      show ((ws.length + 1 : Nat) : Int) - 1 = _
      omega
    show Q (V.int (_ - 1)) _
    rw [e]
    exact q _ ⟨dx, pl, ke, es, ts ++ [t], bb⟩ ((Exc.of s12).trans exc_mut) (by rw [upd_same]; exact fun z => nomatch z)
def spBegin (CE CM : Addr) : Sp := fun vs H Q _ => ∃ (M : List Addr) (m ll a : Addr) (tags : Word) (Gs : List Form) (Gk : Form) (ws : List Word) (wd : Word), vs = [.ref m, .ref a] ∧ BoxAt CE CM M H m ll tags Gs Gk ws ∧ BoxOk tags Gs Gk ∧ (∀ b ∈ M, H b ≠ none) ∧
  WordAt H a wd ∧ (∀ t ∈ wd, t ∈ tags) ∧ wd.length ≤ 200 ∧ ws.length ≤ 1000 ∧ Came CE CM M H m ll tags Gs Gk ws wd Q
theorem ok_Mailbox_begin (X : TX K mg) : FnOk P w K mg base CX0 6 X.d_Mailbox_begin.a X.d_Mailbox_begin.fd ["self", "subject"] (spBegin X.c_Eater X.c_Mailbox) := by
  have nd := sc_Mailbox_begin.nd
  refine X.d_Mailbox_begin.F.ok sc_Mailbox_begin (fun vs H Q E h => ?_) (fun cdv A outer s H vs Q E hr h => ?_)
  · obtain ⟨M, m, ll, a, tags, Gs, Gk, ws, wd, rfl, _⟩ := h
    rfl
  · obtain ⟨M, m, ll, a, tags, Gs, Gk, ws, wd, rfl, ⟨dx, pl, ke, es, ts, b⟩, ok, T0, ha, hin, hwd, hl, q⟩ := h
    refine ⟨_, (pss_cons (ps_expr (pe_call (ok_check_word X) (hr.mono (by decide)) rfl X.d_check_word.mg X.d_check_word.F.kp X.d_check_word.b .nil pass0 (pa_cons (pe_meth0 (QB.pe_fldK K (pv 0) rfl) X.cl_Eater X.h_Eater_tags (ok_Eater_tags X) (hr.mono (by decide)) X.d_Eater_tags.b .nil pass0) (pa_cons (pv 1) (pa_cons (pe_gc rfl X.c_LONGEST_SUBJECT) pa_nil))))) (pss_one (ps_ret (pe_meth (pv 0) X.cl_Mailbox X.h_Mailbox__come (ok_Mailbox__come X) (hr.mono (by decide)) X.d_Mailbox__come.b .nil pass0 (pa_cons (pe_callTy (QB.call_listK K) (by rfl) X.n_list QB.bo_list (pa_cons (pv 1) pa_nil)) pa_nil))))), ?_⟩
    try dsimp only [Cx.nox, Cx.wish, cxOf]
    have ho := hide_sub _ _ b.obj
    have hke := b.key.same hide_sub
    obtain ⟨dx2, a2, b2, k1, k2, k3⟩ := hke
    refine ⟨_, rfl, m, _, _, _, _, rfl, ho, X.cl_Mailbox, X.na_Mailbox__key, rfl, ?_⟩
    refine ⟨ke, dx2, _, rfl, k1, rfl, ?_⟩
    refine ⟨ke, tags, Gk, rfl, ⟨dx2, a2, b2, k1, k2, k3⟩, fun p np => ?_⟩
    have s1 : Same H (upd H p (.lst (vS tags))) := same_new np
    have hp : WordAt (upd H p (.lst (vS tags))) p tags := upd_same
    refine ⟨_, rfl, p, a, tags, wd, 200, rfl, hp, Same.word s1 ha, by omega, hin, fun H2 s2 => ?_⟩
    have s12 := s1.trans s2
    refine ⟨_, rfl, m, dx, _, rfl, s12 _ _ ho, rfl, ?_⟩
    refine ⟨_, rfl, _, _, rfl, .inl (SqL.of (Same.word s12 ha)), fun c nc => ?_⟩
    have s3 : Same H2 (upd H2 c (.lst (vS wd))) := same_new nc
    have s := s12.trans s3
    have T3 : ∀ b ∈ M, H2 b ≠ none := tr_same T0 s12
    exact ⟨M, m, ll, c, tags, Gs, Gk, ws, wd, rfl, ⟨dx, pl, ke, es, ts, b.same s⟩, ok, tr_same T0 s, upd_same, not_in T3 nc, hin, hwd, hl, fun H' b' x n => q H' b' ((Exc.of s).trans x) n⟩
/-- what an answer's subject is -/
def ansOf (tags : Word) (Gs : List Form) (ws : List Word) (i j : Nat) : Word := make tags (Gs.getD j []) (ws.getD i [])
def spAnsw (CE CM : Addr) (R : List Addr → Hp → Addr → Addr → Word → List Form → Form → List Word → Nat → Nat → VK → Prop) : Sp := fun vs H Q _ => ∃ (M : List Addr) (m ll : Addr) (tags : Word) (Gs : List Form) (Gk : Form) (ws : List Word) (i j : Nat), vs = [.ref m, .int (i : Int), .int (j : Int)] ∧
  BoxAt CE CM M H m ll tags Gs Gk ws ∧ BoxOk tags Gs Gk ∧ WsOk tags 100 ws ∧ (∀ b ∈ M, H b ≠ none) ∧ i < ws.length ∧ j < Gs.length ∧ ws.length ≤ 1000 ∧ R M H m ll tags Gs Gk ws i j Q
theorem ans_ok {tags : Word} {Gs : List Form} {Gk : Form} {ws : List Word} {i j : Nat} (ok : BoxOk tags Gs Gk) (wo : WsOk tags 100 ws) (hi : i < ws.length) (hj : j < Gs.length) : (∀ t ∈ ansOf tags Gs ws i j, t ∈ tags) ∧ (ansOf tags Gs ws i j).length ≤ 102 ∧ (ansOf tags Gs ws i j).length ≤ 2 + (ws[i]).length := by
  have e1 : Gs.getD j [] = Gs[j] := by
    rw [List.getD_eq_getElem?_getD, List.getElem?_eq_getElem hj]
    rfl
  have e2 : ws.getD i [] = ws[i] := by
    rw [List.getD_eq_getElem?_getD, List.getElem?_eq_getElem hi]
    rfl
  unfold ansOf
  rw [e1, e2]
  have g := ok.gs _ (List.getElem_mem hj)
  have := make_len (tags := tags) (wd := ws[i]) g.len
  have := (wo.get hi).2
  exact ⟨make_sub g.words (wo.get hi).1, by omega, this |> fun _ => by omega⟩
theorem ok_Mailbox__answered (X : TX K mg) : FnOk P w K mg base CX0 5 X.d_Mailbox__answered.a X.d_Mailbox__answered.fd ["self", "number", "program"]
    (spAnsw X.c_Eater X.c_Mailbox fun _ H _ _ tags Gs _ ws i j Q => ∀ p H', Same H H' → H p = none → WordAt H' p (ansOf tags Gs ws i j) → Q (.ref p) H') := by
  have nd := sc_Mailbox__answered.nd
  refine X.d_Mailbox__answered.F.ok sc_Mailbox__answered (fun vs H Q E h => ?_) (fun cdv A outer s H vs Q E hr h => ?_)
  · obtain ⟨M, m, ll, tags, Gs, Gk, ws, i, j, rfl, _⟩ := h
    rfl
  · obtain ⟨M, m, ll, tags, Gs, Gk, ws, i, j, rfl, ⟨dx, pl, ke, es, ts, b⟩, ok, wo, T0, hi, hj, hl, q⟩ := h
    refine ⟨_, (pss_cons (ps_expr (pe_call (ok_check_number X) (hr.mono (by decide)) rfl X.d_check_number.mg X.d_check_number.F.kp X.d_check_number.b .nil pass0 (pa_cons (pv 1) (pa_cons (pe_op op_sub (pe_callB (QB.call_lenK K) (by rfl) X.n_len PySem.boot_len (pa_cons (QB.pe_fldK K (pv 0) rfl) pa_nil)) pe_int) pa_nil)))) (pss_cons (ps_expr (pe_call (ok_check_number X) (hr.mono (by decide)) rfl X.d_check_number.mg X.d_check_number.F.kp X.d_check_number.b .nil pass0 (pa_cons (pv 2) (pa_cons (pe_op op_sub (pe_callB (QB.call_lenK K) (by rfl) X.n_len PySem.boot_len (pa_cons (QB.pe_fldK K (pv 0) rfl) pa_nil)) pe_int) pa_nil)))) (pss_cons (ps_set (i := 3) nd rfl (Or.inl rfl) (pe_meth (pe_ix (QB.ix_listK K) (QB.pe_fldK K (pv 0) rfl) (pv 2) (fun _ _ => rfl)) X.cl_Eater X.h_Eater_on (ok_Eater_on X) (hr.mono (by decide)) X.d_Eater_on.b .nil pass0 (pa_cons (pe_ix (QB.ix_tupK K) (pe_ix (QB.ix_listK K) (QB.pe_fldK K (pv 0) rfl) (pv 1) (fun _ _ => rfl)) pe_int (fun _ _ => rfl)) pa_nil))) (pss_cons (ps_if (pt_cmpR op_gt (pe_callB (QB.call_lenK K) (by rfl) X.n_len PySem.boot_len (pa_cons (pv 3) pa_nil)) (pe_gc rfl X.c_LONGEST_SUBJECT) (nomark _)) (pss_one ps_never) pss_nil) (pss_one (ps_ret (pv 3))))))), ?_⟩
    try dsimp only [Cx.nox, Cx.wish, cxOf]
    have ho := hide_sub _ _ b.obj
    have hp := b.pro.same hide_sub
    have hel := hp.len
    obtain ⟨t, x, y, h1, h2, h3, h4⟩ := b.get hi
    obtain ⟨e, he1, he2⟩ := hp.get hj
    obtain ⟨dx2, a2, b2, k1, k2, k3⟩ := he2
    have a1 := ans_ok ok wo hi hj
    have e1 : Gs.getD j [] = Gs[j] := by
      rw [List.getD_eq_getElem?_getD, List.getElem?_eq_getElem hj]
      rfl
    have e2 : ws.getD i [] = ws[i] := by
      rw [List.getD_eq_getElem?_getD, List.getElem?_eq_getElem hi]
      rfl
    have g : FmOk tags (Gs.getD j []) 2 := e1 ▸ ok.gs _ (List.getElem_mem hj)
    have FL : ∀ {f : Str}, True := fun {f} => trivial
    refine ⟨_, rfl, _, rfl, m, _, _, _, _, rfl, ho, X.cl_Mailbox, X.na_Mailbox__letters, rfl, ?_⟩
    refine ⟨_, _, rfl, .inl (SqL.of b.lst), _, _, rfl, rfl, ?_⟩
    refine ⟨_, _, rfl, by omega, by rw [List.length_map, b.len]; omega, ?_⟩
    refine ⟨_, rfl, _, rfl, m, _, _, _, _, rfl, ho, X.cl_Mailbox, X.na_Mailbox__programs, rfl, ?_⟩
    refine ⟨_, _, rfl, .inl (SqL.of hp.lst), _, _, rfl, rfl, ?_⟩
    refine ⟨_, _, rfl, by omega, by rw [List.length_map, hel]; omega, ?_⟩
    refine ⟨_, rfl, m, _, _, _, _, rfl, ho, X.cl_Mailbox, X.na_Mailbox__programs, rfl, ?_⟩
    refine ⟨_, rfl, _, _, _, _, rfl, rfl, SqL.of hp.lst, atI_nat (by rw [List.getElem?_map, he1]; rfl), ?_⟩
    refine ⟨e, dx2, _, rfl, k1, rfl, ?_⟩
    refine ⟨_, rfl, m, _, _, _, _, rfl, ho, X.cl_Mailbox, X.na_Mailbox__letters, rfl, ?_⟩
    refine ⟨_, rfl, _, _, _, _, rfl, rfl, SqL.of b.lst, atI_nat (by rw [List.getElem?_map, h1]; rfl), ?_⟩
    refine ⟨t, _, 0, _, rfl, rfl, SqT.of h2, rfl, ?_⟩
    refine ⟨e, x, tags, Gs.getD j [], ws[i], rfl, ⟨dx2, a2, b2, k1, k2, k3⟩, h3, g.good, (wo.get hi).1, by have := (wo.get hi).2; omega, fun s hs => by have := g.len s hs; omega, fun p H1 s1 np hpp => ?_⟩
    have hw : WordAt H1 p (ansOf tags Gs ws i j) := by
      unfold ansOf
      rw [e2]
      exact hpp
    refine ⟨_, rfl, _, _, rfl, .inl (SqL.of hw), _, _, rfl, rfl, _, rfl, ?_⟩
    rw [vS_len, decide_eq_false (by have := a1.2.1; omega)]
    refine iteF ?_
    exact ⟨_, rfl, q p H1 s1 np hw⟩
theorem ok_Mailbox_answer (X : TX K mg) : FnOk P w K mg base CX0 6 X.d_Mailbox_answer.a X.d_Mailbox_answer.fd ["self", "number", "program"]
    (spAnsw X.c_Eater X.c_Mailbox fun M H m ll tags Gs Gk ws i j Q => Came X.c_Eater X.c_Mailbox M H m ll tags Gs Gk ws (ansOf tags Gs ws i j) Q) := by
  have nd := sc_Mailbox_answer.nd
  refine X.d_Mailbox_answer.F.ok sc_Mailbox_answer (fun vs H Q E h => ?_) (fun cdv A outer s H vs Q E hr h => ?_)
  · obtain ⟨M, m, ll, tags, Gs, Gk, ws, i, j, rfl, _⟩ := h
    rfl
  · obtain ⟨M, m, ll, tags, Gs, Gk, ws, i, j, rfl, b, ok, wo, T0, hi, hj, hl, q⟩ := h
    refine ⟨_, (pss_one (ps_ret (pe_meth (pv 0) X.cl_Mailbox X.h_Mailbox__come (ok_Mailbox__come X) (hr.mono (by decide)) X.d_Mailbox__come.b .nil pass0 (pa_cons (pe_meth (pv 0) X.cl_Mailbox X.h_Mailbox__answered (ok_Mailbox__answered X) (hr.mono (by decide)) X.d_Mailbox__answered.b .nil pass0 (pa_cons (pv 1) (pa_cons (pv 2) pa_nil))) pa_nil)))), ?_⟩
    try dsimp only [Cx.nox, Cx.wish, cxOf]
    obtain ⟨dx, pl, ke, es, ts, b⟩ := b
    have ho := hide_sub _ _ b.obj
    have a1 := ans_ok ok wo hi hj
    refine ⟨_, rfl, m, dx, _, rfl, ho, rfl, ?_⟩
    refine ⟨_, rfl, m, dx, _, rfl, ho, rfl, ?_⟩
    refine ⟨_, rfl, _, rfl, M, m, ll, tags, Gs, Gk, ws, i, j, rfl, ⟨dx, pl, ke, es, ts, b⟩, ok, wo, T0, hi, hj, hl, fun p H1 s1 np hp => ?_⟩
    exact ⟨M, m, ll, p, tags, Gs, Gk, ws, _, rfl, ⟨dx, pl, ke, es, ts, b.same s1⟩, ok, tr_same T0 s1, hp, not_in T0 np, a1.1, by have := a1.2.1; omega, hl, fun H' b' x n => q H' b' ((Exc.of s1).trans x) n⟩
theorem ok_Mailbox_tried (X : TX K mg) : FnOk P w K mg base CX0 6 X.d_Mailbox_tried.a X.d_Mailbox_tried.fd ["self", "number", "program"]
    (spAnsw X.c_Eater X.c_Mailbox fun M H m ll tags Gs Gk ws i j Q => ∀ p H', Same H H' → H p = none → H' p = some (.lst (vN (withKey (boxKeys tags Gk ws) ws.length (make tags Gk (ansOf tags Gs ws i j)) ++ [ws.length]))) → Q (.ref p) H') := by
  have nd := sc_Mailbox_tried.nd
  refine X.d_Mailbox_tried.F.ok sc_Mailbox_tried (fun vs H Q E h => ?_) (fun cdv A outer s H vs Q E hr h => ?_)
  · obtain ⟨M, m, ll, tags, Gs, Gk, ws, i, j, rfl, _⟩ := h
    rfl
  · obtain ⟨M, m, ll, tags, Gs, Gk, ws, i, j, rfl, b, ok, wo, T0, hi, hj, hl, q⟩ := h
    refine ⟨_, (pss_one (ps_ret (pe_op op_cat (pe_meth (pv 0) X.cl_Mailbox X.h_Mailbox__with_key (ok_Mailbox__with_key X) (hr.mono (by decide)) X.d_Mailbox__with_key.b .nil pass0 (pa_cons (pe_meth (QB.pe_fldK K (pv 0) rfl) X.cl_Eater X.h_Eater_on (ok_Eater_on X) (hr.mono (by decide)) X.d_Eater_on.b .nil pass0 (pa_cons (pe_meth (pv 0) X.cl_Mailbox X.h_Mailbox__answered (ok_Mailbox__answered X) (hr.mono (by decide)) X.d_Mailbox__answered.b .nil pass0 (pa_cons (pv 1) (pa_cons (pv 2) pa_nil))) pa_nil)) pa_nil)) (pe_lst (pa_cons (pe_callB (QB.call_lenK K) (by rfl) X.n_len PySem.boot_len (pa_cons (QB.pe_fldK K (pv 0) rfl) pa_nil)) pa_nil))))), ?_⟩
    try dsimp only [Cx.nox, Cx.wish, cxOf]
    obtain ⟨dx, pl, ke, es, ts, b⟩ := b
    have ho := hide_sub _ _ b.obj
    have hke := b.key.same hide_sub
    obtain ⟨dx2, a2, b2, k1, k2, k3⟩ := hke
    have a1 := ans_ok ok wo hi hj
    refine ⟨_, rfl, m, dx, _, rfl, ho, rfl, ?_⟩
    refine ⟨_, rfl, m, _, _, _, _, rfl, ho, X.cl_Mailbox, X.na_Mailbox__key, rfl, ?_⟩
    refine ⟨ke, dx2, _, rfl, k1, rfl, ?_⟩
    refine ⟨_, rfl, m, dx, _, rfl, ho, rfl, ?_⟩
    refine ⟨_, rfl, _, rfl, M, m, ll, tags, Gs, Gk, ws, i, j, rfl, ⟨dx, pl, ke, es, ts, b⟩, ok, wo, T0, hi, hj, hl, fun p H1 s1 np hp => ?_⟩
    refine ⟨ke, p, tags, Gk, ansOf tags Gs ws i j, rfl, ⟨dx2, a2, b2, s1 _ _ k1, Same.word s1 k2, Same.form s1 k3⟩, hp, ok.gk.good, a1.1, by have := a1.2.1; omega, fun s hs => by have := ok.gk.len s hs; omega, fun p2 H2 s2 n2 h2 => ?_⟩
    have s12 := s1.trans s2
    refine ⟨M, m, ll, p2, tags, Gs, Gk, ws, make tags Gk (ansOf tags Gs ws i j), rfl, ⟨dx, pl, ke, es, ts, b.same s12⟩, ok, fun wd hw => ⟨(wo wd hw).1, by have := (wo wd hw).2; omega⟩, h2, ok.key_ok a1.1, hl, fun p3 H3 s3 n3 h3 => ?_⟩
    have s13 := s12.trans s3
    refine ⟨_, rfl, m, _, _, _, _, rfl, s13 _ _ ho, X.cl_Mailbox, X.na_Mailbox__letters, rfl, ?_⟩
    refine ⟨_, _, rfl, .inl (SqL.of (s13 _ _ b.lst)), by show 1 ≤ sizeLine; decide, fun p4 n4 => ?_⟩
    have s4 : Same H3 (upd H3 p4 (.lst [.int (((ts.map V.ref).length : Nat) : Int)])) := same_new n4
    refine ⟨_, _, _, _, rfl, rfl, s4 _ _ h3, upd_same, by rw [vN_len]; have := withKey_len (boxKeys tags Gk ws) ws.length (make tags Gk (ansOf tags Gs ws i j)); exact sz_le (by show _ + 1 ≤ _; omega), fun p5 n5 => ?_⟩
    have s5 := s13.trans s4
    refine q p5 _ (s5.trans (same_new n5)) (s5.free n5) ?_
    rw [upd_same, vN_app, List.length_map, b.len]
    rfl
end
end Law
end

section
set_option Elab.async false
set_option linter.all false
set_option maxRecDepth 100000
/-! Qmore: rules with the written part named, for turned lists and the truth of a list. -/
namespace QN
open PySem PySem.Spec PyProof.Rows L2
section
variable {X : Cx} (K : PySem.W.Frag)
theorem pe_turn {e : Expr} {te : TE} {k : Nat} {p1 p2 p3 pos : Pos} (he : PE X e te) (h : X.K = K := by rfl) : PE X (.Subscript e (.Slice none none (some (.UnaryOp .USub (.Constant (.int 1) k p1) p2)) p3) pos) (tRevL K te) := h ▸ pe_revL he
def tTru (K : PySem.W.Frag) (ta : TE) : TT := fun σ H Q => ta σ H fun x H' => ∃ k, TruV K x H' k ∧ Q k H'
theorem pt_tru {a : Expr} {ta : TE} (ha : PE X a ta) (h : X.K = K := by rfl) (he : ∀ whole, isTrue a X.env whole = (do let v ← whole; standAt a.pos; holding [v] (truthy v)) := by intro _; rfl) : PT X a (tTru K ta) := h ▸ pt_truth ha he
theorem sl_tupK (h : X.K = K := by rfl) : SlR X (rSlT K) := h ▸ sl_tup
end
end QN
namespace QB
open PySem PySem.Spec PyProof.Rows L2
theorem enc_nat : Enc (fun n : Nat => PyData.int (n : Int)) (fun _ => True) 0 := ⟨fun x y => by
  have e := enc_int.eq (x : Int) (y : Int)
  rw [e]
  by_cases h : x = y
  · subst h
    simp
  · rw [decide_eq_false h, decide_eq_false (by omega)], fun x _ => enc_int.lay (x : Int) trivial, fun x => enc_int.dep (x : Int)⟩
def dNats (row : List Nat) : PyData := .list (row.map fun n : Nat => PyData.int (n : Int))
theorem enc_nats : Enc dNats (fun l => ∀ x ∈ l, True) 1 := enc_nat.list
theorem dp_nats {K : PySem.W.Frag} {H : Hp} {a : Addr} {row : List Nat} (h : H a = some (.lst (row.map fun (n : Nat) => V.int (n : Int)))) : Dp K H (.ref a) (dNats row) := .lst (SqL.of h) (dpAll_map _ _ (fun x => .int _) row)
end QB
end

section
set_option Elab.async false
set_option linter.all false
set_option maxRecDepth 100000
set_option maxHeartbeats 4000000
namespace Law
open PySem PySem.Spec PyProof.Rows L2 LamX QB QM
section
variable {P : Program} {w : World} {K : PySem.W.Frag} {mg : Str → Option Value} {base : Heap}
def spInitM (CE CM : Addr) : Sp := fun vs H Q _ => ∃ (x dx p0 ke : Addr) (es : List Addr) (tags : Word) (Gs : List Form) (Gk : Form), vs = [.ref x, .ref p0, .ref ke] ∧ H x = some (.ins CM dx []) ∧ ProgsAt CE H p0 es tags Gs ∧ EatAt CE H ke tags Gk ∧ OkWord tags ∧ 1 ≤ Gs.length ∧ Gs.length ≤ 6 ∧
  ∀ pl ll H', Exc [x] H H' → H pl = none → H ll = none → pl ≠ ll → H' x = some (.ins CM dx (boxFs pl ke ll)) → H' pl = some (.lst (es.map V.ref)) → H' ll = some (.lst []) → Q .non H'
theorem ok_Mailbox___init__ (X : TX K mg) : FnOk P w K mg base CX0 4 X.d_Mailbox___init__.a X.d_Mailbox___init__.fd ["self", "programs", "key"] (spInitM X.c_Eater X.c_Mailbox) := by
  have nd := sc_Mailbox___init__.nd
  refine X.d_Mailbox___init__.F.ok sc_Mailbox___init__ (fun vs H Q E h => ?_) (fun cdv A outer s H vs Q E hr h => ?_)
  · obtain ⟨x, dx, p0, ke, es, tags, Gs, Gk, rfl, _⟩ := h
    rfl
  · obtain ⟨x, dx, p0, ke, es, tags, Gs, Gk, rfl, hx, hp, hk, okw, h1, h6, q⟩ := h
    refine ⟨_, (pss_cons (ps_expr (pe_call (ok_check_programs X) (hr.mono (by decide)) rfl X.d_check_programs.mg X.d_check_programs.F.kp X.d_check_programs.b .nil pass0 (pa_cons (pv 1) pa_nil))) (pss_cons (ps_expr (pe_call (ok_check_same_tags X) (hr.mono (by decide)) rfl X.d_check_same_tags.mg X.d_check_same_tags.F.kp X.d_check_same_tags.b .nil pass0 (pa_cons (pe_ix (QB.ix_listK K) (pv 1) pe_int (fun _ _ => rfl)) (pa_cons (pv 2) pa_nil)))) (pss_cons (ps_fld (pv 0) (pe_callTy (QB.call_listK K) (by rfl) X.n_list QB.bo_list (pa_cons (pv 1) pa_nil)) rfl) (pss_cons (ps_fld (pv 0) (pv 2) rfl) (pss_one (ps_fld (pv 0) (pe_lst pa_nil) rfl)))))), ?_⟩
    try dsimp only [Cx.nox, Cx.wish, cxOf]
    refine ⟨_, rfl, p0, es, tags, Gs, rfl, hp, okw, h1, h6, fun H1 s1 => ?_⟩
    obtain ⟨e0, he0, hE0⟩ := (hp.same s1).get (k := 0) (by omega)
    refine ⟨_, rfl, _, _, _, _, rfl, rfl, SqL.of (hp.same s1).lst, atI_nat (j := 0) (by rw [List.getElem?_map, he0]; rfl), ?_⟩
    refine ⟨_, rfl, e0, ke, tags, _, Gk, rfl, hE0, hk.same s1, okw, fun H2 s2 => ?_⟩
    have s12 := s1.trans s2
    refine ⟨_, rfl, ?_⟩
    dsimp only [tNil]
    refine ⟨_, _, rfl, .inl (SqL.of (hp.same s12).lst), fun pl npl => ?_⟩
    have s3 : Same H2 (upd H2 pl (.lst (es.map V.ref))) := same_new npl
    have s13 := s12.trans s3
    have hpl : (upd H2 pl (.lst (es.map V.ref))) pl = some (.lst (es.map V.ref)) := upd_same
    have hx3 := s13 _ _ hx
    have n1 := s12.free npl
    generalize upd H2 pl (.lst (es.map V.ref)) = H3 at s3 s13 hpl hx3 ⊢
    have pl_x : pl ≠ x := (ne_of_none hx n1).symm
    refine ⟨_, rfl, x, _, _, _, rfl, hx3, X.cl_Mailbox, X.na_Mailbox__programs, by decide, ?_⟩
    refine ⟨_, rfl, ?_⟩
    refine ⟨_, rfl, x, _, _, _, rfl, upd_same, X.cl_Mailbox, X.na_Mailbox__key, by show (1 : Nat) < 1000; omega, ?_⟩
    refine ⟨by show 0 ≤ sizeLine; decide, fun ll nll => ?_⟩
    have ll_x : ll ≠ x := fun z => by
      subst z
      rw [upd_same] at nll
      cases nll
    have nll3 : H3 ll = none := by
      rw [upd_ne ll_x, upd_ne ll_x] at nll
      exact nll
    have hpl_ll : pl ≠ ll := fun z => by
      rw [z, nll3] at hpl
      cases hpl
    refine ⟨_, rfl, x, _, _, _, rfl, (upd_ne (Ne.symm ll_x)).trans upd_same, X.cl_Mailbox, X.na_Mailbox__letters, by show (2 : Nat) < 1000; omega, ?_⟩
    refine q pl ll _ (fun a o n h => ?_) n1 (s13.free nll3) hpl_ll upd_same ?_ ?_
    · have ax : a ≠ x := by simpa using n
      have ha3 := s13 _ _ h
      have a_ll : a ≠ ll := fun z => by
        rw [z, nll3] at ha3
        cases ha3
      rw [upd_ne ax, upd_ne a_ll, upd_ne ax, upd_ne ax]
      exact ha3
    · rw [upd_ne pl_x, upd_ne hpl_ll, upd_ne pl_x, upd_ne pl_x]
      exact hpl
    · rw [upd_ne ll_x, upd_same]
def spUndoX (CE CM CN : Addr) : Sp := fun vs H Q E => ∃ (M : List Addr) (m ll : Addr) (tags : Word) (Gs : List Form) (Gk : Form) (ws : List Word), vs = [.ref m] ∧ BoxAt CE CM M H m ll tags Gs Gk ws ∧
  (ws = [] → E (.ref CN) none H) ∧ (ws ≠ [] → ∀ H', BoxAt CE CM M H' m ll tags Gs Gk ws.dropLast → Exc [ll] H H' → H' ll ≠ none → Q .non H')
theorem paired_drop {α β : Type} {R : α → β → Prop} : ∀ {l : List α} {k : List β}, Paired R l k → Paired R l.dropLast k.dropLast
  | _, _, .nil => .nil
  | _, _, .cons h .nil => .nil
  | _, _, .cons h (.cons h2 r) => .cons h (paired_drop (.cons h2 r))
theorem okx_Mailbox_undo (X : TX K mg) : FnOk P w K mg base (L2.CX P w) 1 X.d_Mailbox_undo.a X.d_Mailbox_undo.fd ["self"] (spUndoX X.c_Eater X.c_Mailbox X.e_NothingToUndo) := by
  have nd := sc_Mailbox_undo.nd
  refine X.d_Mailbox_undo.F.okX sc_Mailbox_undo (fun vs H Q E h => ?_) (fun cdv A outer s H vs Q E hr h => ?_)
  · obtain ⟨M, m, ll, tags, Gs, Gk, ws, rfl, _⟩ := h
    rfl
  · obtain ⟨M, m, ll, tags, Gs, Gk, ws, rfl, ⟨dx, pl, ke, es, ts, b⟩, q1, q2⟩ := h
    refine ⟨_, (pss_cons (ps_if (pt_not (QN.pt_tru K (QB.pe_fldK K (pv 0) rfl))) (pss_one (ps_raise rfl (takes_of rfl rfl rfl rfl) (QM2.pmk_own0 X.nx_NothingToUndo rfl X.me_NothingToUndo))) pss_nil) (pss_one (ps_expr (QB.pe_bm0K K PySem.F.plainAttrs_list PySem.F.slot_list_pop PySem.F.type_list_pop mt_pop (QB.pe_fldK K (pv 0) rfl))))), ?_⟩
    try dsimp only [Cx.nox, Cx.wish, cxOf]
    have ho := hide_sub _ _ b.obj
    have htl := b.len
    refine ⟨_, rfl, m, _, _, _, _, rfl, ho, X.cl_Mailbox, X.na_Mailbox__letters, rfl, ?_⟩
    have et : (ts.map V.ref).isEmpty = decide (ws = []) := by
      cases ws with
      | nil =>
        cases ts with
        | nil => rfl
        | cons => cases htl
      | cons =>
        cases ts with
        | nil => cases htl
        | cons => rfl
    refine ⟨_, .inl ⟨_, SqL.of b.lst, rfl⟩, ?_⟩
    rw [et]
    by_cases e : ws = []
    · rw [decide_eq_true e]
      exact iteT (q1 e)
    · rw [decide_eq_false e]
      refine iteF ?_
      refine ⟨_, rfl, m, _, _, _, _, rfl, ho, X.cl_Mailbox, X.na_Mailbox__letters, rfl, ?_⟩
      refine ⟨.inl ⟨rfl, _, SqL.of b.lst⟩, ?_⟩
      have hpos : 0 < ts.length := by
        rw [htl]
        exact List.length_pos_iff.mpr e
      refine ⟨ll, _, V.ref (ts[ts.length - 1]'(by omega)), rfl, rfl, b.lst, by rw [List.length_map, List.getElem?_map, List.getElem?_eq_getElem (by omega)]; rfl, ?_⟩
      have hs : Same (hide M H) (hide M (upd H ll (.lst (ts.map V.ref).dropLast))) := hide_mut b.mem
      refine q2 e _ ⟨dx, pl, ke, es, ts.dropLast, hs _ _ b.obj, b.pro.same hs, b.key.same hs, ?_, paired_drop (L2.Paired.mapP b.all fun _ _ z => z.same hs), b.mem⟩ exc_mut (by rw [upd_same]; exact fun z => nomatch z)
      rw [upd_same, List.map_dropLast]
theorem valV_seen {A : Word → Addr} {k : Word} : ∀ l : List Word, valV (l.map fun k => (keyT k, V.ref (A k))) (keyT k) = if k ∈ l then some (V.ref (A k)) else none
  | [] => rfl
  | x :: l => by
    have ih := valV_seen (A := A) (k := k) l
    by_cases e : x = k
    · subst e
      rw [if_pos List.mem_cons_self]
      unfold valV
      rw [List.map_cons, List.find?_cons, decide_eq_true rfl]
      rfl
    · have hk : ¬ keyT x = keyT k := fun z => e (keyT_inj z)
      have h2 : (k ∈ x :: l) = (k ∈ l) := by
        apply propext
        rw [List.mem_cons]
        exact ⟨fun z => z.resolve_left fun y => e y.symm, .inr⟩
      rw [show (if k ∈ x :: l then some (V.ref (A k)) else none) = (if k ∈ l then some (V.ref (A k)) else none) from by simp only [h2], ← ih]
      unfold valV
      rw [List.map_cons, List.find?_cons, decide_eq_false hk]
theorem putK_seen {A : Word → Addr} {k : Word} {v : V} {l : List Word} (h : ¬ k ∈ l) : putK (l.map fun k => (keyT k, V.ref (A k))) (keyT k) v = (l.map fun k => (keyT k, V.ref (A k))) ++ [(keyT k, v)] := by
  unfold putK
  rw [if_neg]
  intro z
  rw [List.any_eq_true] at z
  obtain ⟨p, hp, e⟩ := z
  obtain ⟨k2, hk, rfl⟩ := List.mem_map.mp hp
  exact h (keyT_inj (of_decide_eq_true e) ▸ hk)
end
end Law
end

section
set_option Elab.async false
set_option linter.all false
set_option maxRecDepth 100000
set_option maxHeartbeats 4000000
namespace Law
open PySem PySem.Spec PyProof.Rows L2 LamX QB QM
/-- one key more -/
theorem Grp.more {H0 H H' : Hp} {D : List Addr} {A : Word → Addr} {ks : List Word} {f : Word → List Nat} {q : Addr} {w : Word} (g : Grp H0 H D A ks f) (h : ¬ w ∈ ks)
    (x : Exc D H H') (nq : H q = none) (n0 : H0 q = none) (qD : q ∉ D) (hq : H' q = some (.lst (vN (f w)))) : Grp H0 H' D (fun k => if k = w then q else A k) (ks ++ [w]) f := by
  have old : ∀ {k}, k ∈ ks → (if k = w then q else A k) = A k := fun {k} hk => if_neg fun (z : k = w) => h (by rw [← z]; exact hk)
  have ne : ∀ {k}, k ∈ ks → A k ≠ q := fun {k} hk z => by
    have := g.at_ k hk
    rw [z, nq] at this
    cases this
  refine ⟨fun k hk => ?_, fun k hk k' hk' e => ?_, fun k hk => ?_, fun k hk => ?_⟩
  · show H' (if k = w then q else A k) = _
    rcases List.mem_append.mp hk with hk | hk
    · rw [old hk]
      exact x _ _ (g.out k hk) (g.at_ k hk)
    · rw [List.mem_singleton.mp hk, if_pos rfl]
      exact hq
  · have e : (if k = w then q else A k) = (if k' = w then q else A k') := e
    rcases List.mem_append.mp hk with hk | hk <;> rcases List.mem_append.mp hk' with hk' | hk'
    · rw [old hk, old hk'] at e
      exact g.inj _ hk _ hk' e
    · rw [old hk, List.mem_singleton.mp hk', if_pos rfl] at e
      exact absurd e (ne hk)
    · rw [old hk', List.mem_singleton.mp hk, if_pos rfl] at e
      exact absurd e.symm (ne hk')
    · rw [List.mem_singleton.mp hk, List.mem_singleton.mp hk']
  · show H0 (if k = w then q else A k) = none
    rcases List.mem_append.mp hk with hk | hk
    · rw [old hk]
      exact g.new k hk
    · rw [List.mem_singleton.mp hk, if_pos rfl]
      exact n0
  · show (if k = w then q else A k) ∉ D
    rcases List.mem_append.mp hk with hk | hk
    · rw [old hk]
      exact g.out k hk
    · rw [List.mem_singleton.mp hk, if_pos rfl]
      exact qD
/-- one number more at a key -/
theorem Grp.put {H0 H : Hp} {D : List Addr} {A : Word → Addr} {ks : List Word} {f f' : Word → List Nat} {w : Word} {n : Nat} (g : Grp H0 H D A ks f) (h : w ∈ ks) (e1 : f' w = f w ++ [n]) (e2 : ∀ k, k ≠ w → f' k = f k) :
    Grp H0 (upd H (A w) (.lst (vN (f w) ++ [V.int (n : Int)]))) D A ks f' := by
  refine ⟨fun k hk => ?_, g.inj, g.new, g.out⟩
  by_cases e : k = w
  · rw [e, upd_same, e1, vN_app]
    rfl
  · rw [upd_ne fun z => e (g.inj _ hk _ h z), e2 k e]
    exact g.at_ k hk
theorem Grp.re {H0 H : Hp} {D D' : List Addr} {A : Word → Addr} {ks : List Word} {f : Word → List Nat} (g : Grp H0 H D A ks f) (h : ∀ k ∈ ks, A k ∉ D') : Grp H0 H D' A ks f := ⟨g.at_, g.inj, g.new, h⟩
theorem Grp.mono {H0 H1 H : Hp} {D : List Addr} {A : Word → Addr} {ks : List Word} {f : Word → List Nat} (g : Grp H1 H D A ks f) (s : Same H0 H1) : Grp H0 H D A ks f := ⟨g.at_, g.inj, fun k h => s.free (g.new k h), g.out⟩
section
variable {P : Program} {w : World} {K : PySem.W.Frag} {mg : Str → Option Value} {base : Heap}
def spTalks (CE CM : Addr) : Sp := fun vs H Q _ => ∃ (M : List Addr) (m ll : Addr) (tags : Word) (Gs : List Form) (Gk : Form) (ws : List Word), vs = [.ref m] ∧ BoxAt CE CM M H m ll tags Gs Gk ws ∧ BoxOk tags Gs Gk ∧ WsOk tags 1000 ws ∧ ws.length ≤ 1000 ∧
  ∀ r H', Same H H' → TalksAt H H' r (boxKeys tags Gk ws) ws.length → Q (.ref r) H'
theorem ok_Mailbox_talks (X : TX K mg) : FnOk P w K mg base CX0 1 X.d_Mailbox_talks.a X.d_Mailbox_talks.fd ["self"] (spTalks X.c_Eater X.c_Mailbox) := by
  have nd := sc_Mailbox_talks.nd
  refine X.d_Mailbox_talks.F.ok sc_Mailbox_talks (fun vs H Q E h => ?_) (fun cdv A outer s H vs Q E hr h => ?_)
  · obtain ⟨M, m, ll, tags, Gs, Gk, ws, rfl, _⟩ := h
    rfl
  · obtain ⟨M, m, ll, tags, Gs, Gk, ws, rfl, ⟨dx, pl, ke, es, ts, b⟩, ok, wo, hl, q⟩ := h
    refine ⟨_, (pss_cons (ps_set (i := 1) nd rfl (Or.inl rfl) pe_dnewT) (pss_cons (ps_for PassesOwn.never rfl (QB.pi_enumK K (by rfl) X.n_enumerate (pa_cons (QB.pe_fldK K (pv 0) rfl) pa_nil)) (pg_tup (by rfl) (pgs_cons (pg_name (i := 2) nd rfl (Or.inl rfl)) (pgs_cons (pg_tup (by rfl) (pgs_cons (pg_name (i := 3) nd rfl (Or.inl rfl)) (pgs_cons (pg_name (i := 4) nd rfl (Or.inl rfl)) (pgs_nil)))) (pgs_nil)))) (pss_one (ps_expr (QB.pe_bmK K PySem.F.plainAttrs_list PySem.F.slot_list_append PySem.F.type_list_append mt_append (QB.pe_bmK K PySem.F.plainAttrs_dict PySem.F.slot_dict_setdefault PySem.F.type_dict_setdefault (QM2.mt_setdT (hu64 hr)) (pv 1) (pa_cons (pe_callTy (QB.call_tupleK K) (by rfl) X.n_tuple QB.bo_tuple (pa_cons (pv 4) pa_nil)) (pa_cons (pe_lst pa_nil) pa_nil))) (pa_cons (pv 2) pa_nil))))) (pss_one (ps_ret (pe_callTy (QM2.call_listVT (by rfl)) (by rfl) X.n_list QB.bo_list (pa_cons (QB.pe_bm0K K PySem.F.plainAttrs_dict PySem.F.slot_dict_values PySem.F.type_dict_values QM2.mt_valuesT (pv 1)) pa_nil)))))), ?_⟩
    try dsimp only [Cx.nox, Cx.wish, cxOf]
    refine fun D hD => ?_
    have s0 : Same H (upd H D (.dT [])) := same_new hD
    have ho := hide_sub _ _ b.obj
    refine ⟨_, rfl, m, _, _, _, _, rfl, s0 _ _ ho, X.cl_Mailbox, X.na_Mailbox__letters, rfl, ?_⟩
    refine ⟨_, _, rfl, SqL.of (s0 _ _ b.lst), ?_⟩
    obtain ⟨kk, hkk⟩ : ∃ kk, kk = boxKeys tags Gk ws := ⟨_, rfl⟩
    rw [← hkk] at q
    refine for_it (walk_enum (K := K) (a := ll) (xs := ts.map V.ref)) (fun i σ H' => ∃ (v2 v3 v4 : Option V) (A : Word → Addr), σ = [some (.ref m), some (.ref D), v2, v3, v4] ∧ Same H H' ∧ H' D = some (.dT ((seenTo kk i).map fun k => (keyT k, V.ref (A k)))) ∧ Grp H H' [D] A (seenTo kk i) (withKey kk i))
      ⟨none, none, none, fun _ => 0, rfl, s0, upd_same, Grp.nil⟩ (fun i σ H' _ ⟨_, _, _, _, _, s1, _⟩ => SqL.of (s1 _ _ b.lst)) ?_ ?_
    · rintro i v σ H2 H3 hi ⟨v2, v3, v4, A, rfl, s2, hD2, g2⟩ ⟨tp, x1, x2, rfl, ntp, rfl, e1, e2⟩
      cases e1
      rw [List.length_map, b.len] at hi
      obtain ⟨t, x, y, h1, h2, h3, h4⟩ := (b.same s2).get hi
      have e2 : (ts.map V.ref)[i]? = some x2 := e2
      rw [List.getElem?_map, h1] at e2
      cases e2
      have s3 : Same H2 (upd H2 tp (.tup [.int (i : Int), .ref t])) := same_new ntp
      have htp : (upd H2 tp (.tup [.int (i : Int), .ref t])) tp = some (.tup [.int (i : Int), .ref t]) := upd_same
      generalize upd H2 tp (.tup [.int (i : Int), .ref t]) = H3 at s3 htp ⊢
      have ekw : kk.getD i [] = make tags Gk (ws[i]) := hkk ▸ boxKeys_get hi
      obtain ⟨kw, hkw⟩ : ∃ kw, kw = kk.getD i [] := ⟨_, rfl⟩
      rw [← ekw, ← hkw] at h4
      refine ⟨tp, _, rfl, SqT.of htp, rfl, _, _, rfl, _, _, rfl, ⟨t, _, rfl, SqT.of (s3 _ _ h2), rfl, _, _, rfl, _, _, rfl, rfl, rfl, ?_⟩⟩
      have hD3 := s3 _ _ hD2
      refine ⟨_, rfl, .inr (.inr (.inl ⟨rfl, .inr ⟨_, hD3⟩⟩)), ?_⟩
      refine ⟨_, rfl, y, _, rfl, .inl ⟨SqL.of (Same.word s3 h4), fun p np => ?_⟩⟩
      have s4 : Same H3 (upd H3 p (.tup (vS kw))) := same_new np
      have hp4 : (upd H3 p (.tup (vS kw))) p = some (.tup ((keyT kw).map kV)) := by rw [upd_same, keyT_v]
      generalize upd H3 p (.tup (vS kw)) = H4 at s4 hp4 ⊢
      refine ⟨by show 0 ≤ sizeLine; decide, fun e ne => ?_⟩
      have s5 : Same H4 (upd H4 e (.lst [])) := same_new ne
      have he5 : (upd H4 e (.lst [])) e = some (.lst []) := upd_same
      have s24 := s3.trans s4
      have g4 := g2.same s24
      have hD4 := s24 _ _ hD2
      have e_D : e ≠ D := (ne_of_none hD4 ne).symm
      have n0 : H e = none := (s2.trans s24).free ne
      have s04 := s2.trans s24
      generalize hH5 : upd H4 e (.lst []) = H5 at s5 he5 ⊢
      have hD5 := s5 _ _ hD4
      have lenk : (seenTo kk i).length ≤ 1000 := Nat.le_trans (seenTo_len kk i) (by omega)
      refine ⟨D, _, keyT kw, p, .ref e, rfl, rfl, hD5, s5 _ _ hp4, by rw [List.length_map]; exact sz_lt (by omega), fun u hu => ?_, fun hn => ?_⟩
      · rw [valV_seen] at hu
        by_cases hm : kw ∈ seenTo kk i
        · rw [if_pos hm] at hu
          cases hu
          have hA := (g4.same s5).at_ kw hm
          refine ⟨.inl ⟨rfl, _, SqL.of hA⟩, ?_⟩
          refine ⟨_, rfl, A kw, _, _, rfl, rfl, hA, by rw [vN_len]; have := withKey_len kk i kw; exact sz_lt (by omega), ?_⟩
          have hm' : kk.getD i [] ∈ seenTo kk i := hkw ▸ hm
          refine ⟨_, _, _, A, rfl, Same.mut (s04.trans s5) (g2.new kw hm), ?_, ?_⟩
          · rw [seenTo_in hm', upd_ne fun (z : D = A kw) => g2.out kw hm (by rw [z]; exact List.mem_cons_self)]
            exact hD5
          · rw [seenTo_in hm']
            exact (g4.same s5).put hm (by rw [hkw, withKey_same]) fun k hk => withKey_other (hkw ▸ hk)
        · rw [if_neg hm] at hu
          cases hu
      · rw [valV_seen] at hn
        by_cases hm : kw ∈ seenTo kk i
        · rw [if_pos hm] at hn
          cases hn
        · have hm' : ¬ kk.getD i [] ∈ seenTo kk i := hkw ▸ hm
          rw [putK_seen hm]
          have he6 : (upd H5 D (.dT ((seenTo kk i).map (fun k => (keyT k, V.ref (A k))) ++ [(keyT kw, V.ref e)]))) e = some (.lst []) := (upd_ne e_D).trans he5
          refine ⟨.inl ⟨rfl, _, SqL.of he6⟩, ?_⟩
          refine ⟨_, rfl, e, _, _, rfl, rfl, he6, by show 0 < sizeLine; decide, ?_⟩
          have g7 : Grp H (upd H5 D (.dT ((seenTo kk i).map (fun k => (keyT k, V.ref (A k))) ++ [(keyT kw, V.ref e)]))) [D] (fun k => if k = kw then e else A k) (seenTo kk i ++ [kw]) (withKey kk i) :=
            g4.more hm ((Exc.of s5).mut (.inl List.mem_cons_self)) ne n0 (by simpa using e_D) (by rw [show withKey kk i kw = [] from by rw [hkw]; exact withKey_none hm']; exact he6)
          have g8 := g7.put (w := kw) (n := i) (f' := withKey kk (i + 1)) (List.mem_append.mpr (.inr (List.mem_singleton.mpr rfl))) (by rw [hkw, withKey_same]) fun k hk => withKey_other (hkw ▸ hk)
          rw [show (if kw = kw then e else A kw) = e from if_pos rfl, show withKey kk i kw = [] from by rw [hkw]; exact withKey_none hm'] at g8
          have es : seenTo kk (i + 1) = seenTo kk i ++ [kw] := by rw [hkw]; exact seenTo_out hm'
          refine ⟨_, _, _, fun k => if k = kw then e else A k, rfl, Same.mut (Same.mut (s04.trans s5) hD) n0, ?_, ?_⟩
          · rw [es, upd_ne e_D.symm, upd_same, List.map_append]
            congr 3
            · refine List.map_congr_left fun k hk => ?_
              show (keyT k, V.ref (A k)) = (keyT k, V.ref (if k = kw then e else A k))
              rw [if_neg fun (z : k = kw) => hm (by rw [← z]; exact hk)]
            · show _ = [(keyT kw, V.ref (if kw = kw then e else A kw))]
              rw [if_pos rfl]
          · rw [es]
            exact g8
    · rintro σ H2 ⟨v2, v3, v4, A, rfl, s2, hD2, g2⟩
      rw [List.length_map, b.len] at hD2 g2
      refine ⟨_, rfl, .inr (.inr (.inl ⟨rfl, .inr ⟨_, hD2⟩⟩)), D, _, rfl, rfl, hD2, fun p np => ?_⟩
      have s3 : Same H2 (upd H2 p (QM2.valuesO p D)) := same_new np
      refine ⟨p, D, _, rfl, upd_same, s3 _ _ hD2, fun r nr => ?_⟩
      have s4 : Same (upd H2 p (QM2.valuesO p D)) (upd (upd H2 p (QM2.valuesO p D)) r (.lst (((seenTo kk ws.length).map fun k => (keyT k, V.ref (A k))).map (·.2)))) := same_new nr
      have s34 := s3.trans s4
      refine q r _ (s2.trans s34) ⟨(s2.trans s3).free nr, A, ?_, (g2.same s34).re fun k hk z => ?_⟩
      · rw [upd_same, List.map_map]
        rfl
      · have := s3 _ _ (g2.at_ k hk)
        rw [List.mem_singleton.mp z, nr] at this
        cases this
end
end Law
end

section
set_option Elab.async false
set_option linter.all false
set_option maxRecDepth 100000
set_option maxHeartbeats 4000000
namespace Law
open PySem PySem.Spec PyProof.Rows L2 LamX QB QM
/-- keys in a list, beside the lists of their numbers -/
structure KAt (H : Hp) (D1 D2 : Addr) (B A : Word → Addr) (ks : List Word) : Prop where
  lst : H D1 = some (.lst (ks.map fun k => V.ref (B k)))
  at_ : ∀ k ∈ ks, WordAt H (B k) k
  o1 : ∀ k ∈ ks, B k ∉ [D1, D2]
  o2 : ∀ k ∈ ks, ∀ k' ∈ ks, A k' ≠ B k
theorem KAt.same {H H' : Hp} {D1 D2 : Addr} {B A : Word → Addr} {ks : List Word} (h : KAt H D1 D2 B A ks) (s : Same H H') : KAt H' D1 D2 B A ks := ⟨s _ _ h.lst, fun k hk => s _ _ (h.at_ k hk), h.o1, h.o2⟩
theorem KAt.dp {K : PySem.W.Frag} {H : Hp} {D1 D2 : Addr} {B A : Word → Addr} {ks : List Word} (h : KAt H D1 D2 B A ks) : Dp K H (.ref D1) (.list (ks.map dWord)) := by
  refine .lst (SqL.of h.lst) ?_
  have key : ∀ l : List Word, (∀ k ∈ l, k ∈ ks) → DpAll K H (l.map fun k => V.ref (B k)) (l.map dWord) := by
    intro l
    induction l with
    | nil => exact fun _ => .nil
    | cons k l ih => exact fun z => .cons (dp_wd (h.at_ k (z k List.mem_cons_self))) (ih fun k' hk => z k' (List.mem_cons_of_mem _ hk))
  exact key _ fun _ z => z
section
variable {P : Program} {w : World} {K : PySem.W.Frag} {mg : Str → Option Value} {base : Heap}
def spTalksL : Sp := fun vs H Q _ => ∃ (a b la : Addr) (as : List Addr) (tags : Word) (F : Form) (ws : List Word), vs = [.ref a, .ref b, .ref la] ∧ WordAt H a tags ∧ FormAt H b F ∧ H la = some (.lst (as.map V.ref)) ∧ Paired (WordAt H) as ws ∧ TagsOk tags ∧ FmOk tags F 100 ∧ WsOk tags 1000 ws ∧ ws.length ≤ 1000 ∧
  ∀ r H', Same H H' → TalksAt H H' r (boxKeys tags F ws) ws.length → Q (.ref r) H'
theorem ok__law_talks (X : TX K mg) : FnOk P w K mg base CX0 4 X.d__law_talks.a X.d__law_talks.fd ["tags", "key", "letters"] spTalksL := by
  have nd := sc__law_talks.nd
  refine X.d__law_talks.F.ok sc__law_talks (fun vs H Q E h => ?_) (fun cdv A outer s H vs Q E hr h => ?_)
  · obtain ⟨a, b, la, as, tags, F, ws, rfl, _⟩ := h
    rfl
  · obtain ⟨a, b, la, as, tags, F, ws, rfl, ha, hF, hla, hws, to, fo, wo, hl, q⟩ := h
    refine ⟨_, (pss_cons (ps_set (i := 3) nd rfl (Or.inl rfl) (pe_lst pa_nil)) (pss_cons (ps_set (i := 4) nd rfl (Or.inl rfl) (pe_lst pa_nil)) (pss_cons (ps_for PassesOwn.never rfl (QB.pi_enumK K (by rfl) X.n_enumerate (pa_cons (pv 2) pa_nil)) (pg_tup (by rfl) (pgs_cons (pg_name (i := 5) nd rfl (Or.inl rfl)) (pgs_cons (pg_name (i := 6) nd rfl (Or.inl rfl)) (pgs_nil)))) (pss_cons (ps_set (i := 7) nd rfl (Or.inl rfl) (pe_call (ok__law_eaten X) (hr.mono (by decide)) rfl X.d__law_eaten.mg X.d__law_eaten.F.kp X.d__law_eaten.b .nil pass0 (pa_cons (pv 0) (pa_cons (pv 1) (pa_cons (pv 6) pa_nil))))) (pss_cons (ps_if (pt_cmpR (op_notInDK K (hu65 hr)) (pv 7) (pv 3) rfl) (pss_cons (ps_expr (QB.pe_bmK K PySem.F.plainAttrs_list PySem.F.slot_list_append PySem.F.type_list_append mt_append (pv 3) (pa_cons (pv 7) pa_nil))) (pss_one (ps_expr (QB.pe_bmK K PySem.F.plainAttrs_list PySem.F.slot_list_append PySem.F.type_list_append mt_append (pv 4) (pa_cons (pe_lst pa_nil) pa_nil))))) pss_nil) (pss_one (ps_expr (QB.pe_bmK K PySem.F.plainAttrs_list PySem.F.slot_list_append PySem.F.type_list_append mt_append (pe_ix (QB.ix_listK K) (pv 4) (QB.pe_bmK K PySem.F.plainAttrs_list PySem.F.slot_list_index PySem.F.type_list_index (mt_indexDK K (hu65 hr)) (pv 3) (pa_cons (pv 7) pa_nil)) (fun _ _ => rfl)) (pa_cons (pv 5) pa_nil))))))) (pss_one (ps_ret (pv 4)))))), ?_⟩
    try dsimp only [Cx.nox, Cx.wish, cxOf]
    have hal : as.length = ws.length := Paired.length hws
    refine ⟨by show 0 ≤ sizeLine; decide, fun D1 n1 => ?_⟩
    have s1 : Same H (upd H D1 (.lst [])) := same_new n1
    have h1 : (upd H D1 (.lst [])) D1 = some (.lst []) := upd_same
    generalize upd H D1 (.lst []) = H1 at s1 h1 ⊢
    refine ⟨by show 0 ≤ sizeLine; decide, fun D2 n2 => ?_⟩
    have s2 : Same H1 (upd H1 D2 (.lst [])) := same_new n2
    have h2 : (upd H1 D2 (.lst [])) D2 = some (.lst []) := upd_same
    have D12 : D1 ≠ D2 := ne_of_none h1 n2
    have h1 := s2 _ _ h1
    have nD2 : H D2 = none := s1.free n2
    have s02 := s1.trans s2
    generalize upd H1 D2 (.lst []) = H2 at s2 s02 h1 h2 ⊢
    refine ⟨_, rfl, _, _, rfl, SqL.of (s02 _ _ hla), ?_⟩
    obtain ⟨kk, hkk⟩ : ∃ kk, kk = boxKeys tags F ws := ⟨_, rfl⟩
    rw [← hkk] at q
    refine for_it (walk_enum (K := K) (a := la) (xs := as.map V.ref)) (fun i σ H' => ∃ (v5 v6 v7 : Option V) (A B : Word → Addr), σ = [some (.ref a), some (.ref b), some (.ref la), some (.ref D1), some (.ref D2), v5, v6, v7] ∧ Same H H' ∧ H' D2 = some (.lst ((seenTo kk i).map fun k => V.ref (A k))) ∧ KAt H' D1 D2 B A (seenTo kk i) ∧ Grp H H' [D1, D2] A (seenTo kk i) (withKey kk i))
      ⟨none, none, none, fun _ => 0, fun _ => 0, rfl, s02, h2, ⟨h1, fun _ h => (nomatch h), fun _ h => (nomatch h), fun _ h => (nomatch h)⟩, Grp.nil⟩ (fun i σ H' _ ⟨_, _, _, _, _, _, s1, _⟩ => SqL.of (s1 _ _ hla)) ?_ ?_
    · rintro i v σ H3 H4 hi ⟨v5, v6, v7, A, B, rfl, s3, hD2, k3, g3⟩ ⟨tp, x1, x2, rfl, ntp, rfl, e1, e2⟩
      cases e1
      rw [List.length_map, hal] at hi
      obtain ⟨c, hc, hcw⟩ := paired_get hws (List.getElem?_eq_getElem hi)
      have e2 : (as.map V.ref)[i]? = some x2 := e2
      rw [List.getElem?_map, hc] at e2
      cases e2
      have s4 : Same H3 (upd H3 tp (.tup [.int (i : Int), .ref c])) := same_new ntp
      have htp : (upd H3 tp (.tup [.int (i : Int), .ref c])) tp = some (.tup [.int (i : Int), .ref c]) := upd_same
      generalize upd H3 tp (.tup [.int (i : Int), .ref c]) = H4 at s4 htp ⊢
      have s04 := s3.trans s4
      have ekw : kk.getD i [] = make tags F (ws[i]) := hkk ▸ boxKeys_get hi
      have okw : OkWord (make tags F (ws[i])) := fun t ht => (to.names t (make_sub fo.words (wo.get hi).1 t ht)).txt
      have okall : ∀ k ∈ seenTo kk i, OkWord k := fun k hk => by
        obtain ⟨j, hj, e⟩ := seenTo_mem hk
        have hj' : j < ws.length := by omega
        rw [← e, hkk, boxKeys_get hj']
        exact fun t ht => (to.names t (make_sub fo.words (wo.get hj').1 t ht)).txt
      obtain ⟨kw, hkw⟩ : ∃ kw, kw = kk.getD i [] := ⟨_, rfl⟩
      rw [← ekw, ← hkw] at okw
      refine ⟨tp, _, rfl, SqT.of htp, rfl, _, _, rfl, _, _, rfl, rfl, ?_⟩
      refine ⟨_, rfl, _, rfl, _, rfl, a, b, c, tags, F, ws[i], rfl, Same.word s04 ha, Same.form s04 hF, Same.word s04 hcw, fo.good, (wo.get hi).1, by have := (wo.get hi).2; omega, fun s hs => by have := fo.len s hs; omega, fun t H5 s5 nt ht => ?_⟩
      have ht : WordAt H5 t kw := by
        rw [hkw, ekw]
        exact ht
      have s05 := s04.trans s5
      have s35 := s4.trans s5
      have g5 := g3.same s35
      have k5 := k3.same s35
      have hD5 := s35 _ _ hD2
      have t_1 : t ≠ D1 := (ne_of_none (s4 _ _ k3.lst) nt).symm
      have t_2 : t ≠ D2 := (ne_of_none (s4 _ _ hD2) nt).symm
      have lenk : (seenTo kk i).length ≤ 1000 := Nat.le_trans (seenTo_len kk i) (by omega)
      have n0t : H t = none := s04.free nt
      by_cases hm : kw ∈ seenTo kk i
      case' pos =>
        refine ⟨_, rfl, _, rfl, notin_yes enc_word (by decide) (dp_wd ht) k5.dp okw okall hm ?_⟩
        refine ⟨_, rfl, iteF ?_⟩
        have es : seenTo kk (i + 1) = seenTo kk i := seenTo_in (hkw ▸ hm)
        rw [← es] at hD5 k5 g5 lenk
        have hm' : kw ∈ seenTo kk (i + 1) := by rw [es]; exact hm
        have s07 := s05
        have okl : ∀ k ∈ seenTo kk (i + 1), OkWord k := by rw [es]; exact okall
        have w7 := ht
        clear s05 ht s35 es s4 s5
        generalize H5 = H7 at s07 w7 g5 k5 hD5 ⊢
        obtain ⟨A1, hA1⟩ : ∃ A1 : Word → Addr, A1 = A := ⟨_, rfl⟩
        rw [← hA1] at hD5 k5 g5
        clear hA1
      case' neg =>
        refine ⟨_, rfl, _, rfl, notin_no enc_word (by decide) (dp_wd ht) k5.dp okw okall hm ?_⟩
        refine ⟨_, rfl, iteT ?_⟩
        have es : seenTo kk (i + 1) = seenTo kk i ++ [kw] := by rw [hkw]; exact seenTo_out (hkw ▸ hm)
        refine ⟨_, rfl, .inl ⟨rfl, _, SqL.of k5.lst⟩, ?_⟩
        refine ⟨_, rfl, D1, _, _, rfl, rfl, k5.lst, by rw [List.length_map]; exact sz_lt (by omega), ?_⟩
        have hD6 : (upd H5 D1 (.lst ((seenTo kk i).map (fun k => V.ref (B k)) ++ [V.ref t]))) D2 = some (.lst ((seenTo kk i).map fun k => V.ref (A k))) := (upd_ne D12.symm).trans hD5
        have s06 : Same H (upd H5 D1 (.lst ((seenTo kk i).map (fun k => V.ref (B k)) ++ [V.ref t]))) := Same.mut s05 n1
        have x6 : Exc [D1, D2] H5 (upd H5 D1 (.lst ((seenTo kk i).map (fun k => V.ref (B k)) ++ [V.ref t]))) := Exc.refl.mut (.inl List.mem_cons_self)
        have h16 : (upd H5 D1 (.lst ((seenTo kk i).map (fun k => V.ref (B k)) ++ [V.ref t]))) D1 = some (.lst ((seenTo kk i).map (fun k => V.ref (B k)) ++ [V.ref t])) := upd_same
        generalize upd H5 D1 (.lst ((seenTo kk i).map (fun k => V.ref (B k)) ++ [V.ref t])) = H6 at hD6 s06 x6 h16 ⊢
        refine ⟨_, rfl, .inl ⟨rfl, _, SqL.of hD6⟩, ?_⟩
        refine ⟨by show 0 ≤ sizeLine; decide, fun e ne => ?_⟩
        have s7 : Same H6 (upd H6 e (.lst [])) := same_new ne
        have he : (upd H6 e (.lst [])) e = some (.lst []) := upd_same
        have e_1 : e ≠ D1 := (ne_of_none h16 ne).symm
        have e_2 : e ≠ D2 := (ne_of_none hD6 ne).symm
        generalize upd H6 e (.lst []) = H6' at s7 he ⊢
        have hD7 := s7 _ _ hD6
        refine ⟨D2, _, _, rfl, rfl, hD7, by rw [List.length_map]; exact sz_lt (by omega), ?_⟩
        have s07 : Same H (upd H6' D2 (.lst ((seenTo kk i).map (fun k => V.ref (A k)) ++ [V.ref e]))) := Same.mut (s06.trans s7) nD2
        have x7 : Exc [D1, D2] H5 (upd H6' D2 (.lst ((seenTo kk i).map (fun k => V.ref (A k)) ++ [V.ref e]))) := (x6.trans (.of s7)).mut (.inl (List.mem_cons_of_mem _ List.mem_cons_self))
        have ne5 : H5 e = none := x6.free ne (by
          intro z
          rcases List.mem_cons.mp z with z | z
          · exact e_1 z
          · exact e_2 (List.mem_singleton.mp z))
        have eD : e ∉ [D1, D2] := fun z => by
          rcases List.mem_cons.mp z with z | z
          · exact e_1 z
          · exact e_2 (List.mem_singleton.mp z)
        have tD : t ∉ [D1, D2] := fun z => by
          rcases List.mem_cons.mp z with z | z
          · exact t_1 z
          · exact t_2 (List.mem_singleton.mp z)
        have h17 : (upd H6' D2 (.lst ((seenTo kk i).map (fun k => V.ref (A k)) ++ [V.ref e]))) D1 = some (.lst ((seenTo kk i).map (fun k => V.ref (B k)) ++ [V.ref t])) := (upd_ne D12).trans (s7 _ _ h16)
        have h27 : (upd H6' D2 (.lst ((seenTo kk i).map (fun k => V.ref (A k)) ++ [V.ref e]))) D2 = some (.lst ((seenTo kk i).map (fun k => V.ref (A k)) ++ [V.ref e])) := upd_same
        have he7 : (upd H6' D2 (.lst ((seenTo kk i).map (fun k => V.ref (A k)) ++ [V.ref e]))) e = some (.lst []) := (upd_ne e_2).trans he
        generalize upd H6' D2 (.lst ((seenTo kk i).map (fun k => V.ref (A k)) ++ [V.ref e])) = H7 at s07 x7 h17 h27 he7 ⊢
        have w7 : WordAt H7 t kw := x7 _ _ tD ht
        have g7 := g5.more (w := kw) (H' := H7) hm x7 ne5 (s05.free ne5) eD (by rw [show withKey kk i kw = [] from withKey_none hm]; exact he7)
        have AB : ∀ k ∈ seenTo kk i, A k ≠ t := fun k hk z => by
          have h := g3.at_ k hk
          rw [z] at h
          have := s4 _ _ h
          rw [nt] at this
          cases this
        have k7 : KAt H7 D1 D2 (fun k => if k = kw then t else B k) (fun k => if k = kw then e else A k) (seenTo kk i ++ [kw]) := by
          have old : ∀ {α : Type} {k : Word} (f : Word → α) (z : α), k ∈ seenTo kk i → (if k = kw then z else f k) = f k := fun {α} {k} f z hk => if_neg fun (y : k = kw) => hm (by rw [← y]; exact hk)
          refine ⟨?_, fun k hk => ?_, fun k hk => ?_, fun k hk k' hk' => ?_⟩
          · rw [h17, List.map_append]
            congr 3
            · refine List.map_congr_left fun k hk => ?_
              show V.ref (B k) = V.ref (if k = kw then t else B k)
              rw [old B t hk]
            · show _ = [V.ref (if kw = kw then t else B kw)]
              rw [if_pos rfl]
          · show WordAt H7 (if k = kw then t else B k) k
            rcases List.mem_append.mp hk with hk | hk
            · rw [old B t hk]
              exact x7 _ _ (k5.o1 k hk) (k5.at_ k hk)
            · rw [List.mem_singleton.mp hk, if_pos rfl]
              exact w7
          · show (if k = kw then t else B k) ∉ _
            rcases List.mem_append.mp hk with hk | hk
            · rw [old B t hk]
              exact k5.o1 k hk
            · rw [List.mem_singleton.mp hk, if_pos rfl]
              exact tD
          · show (if k' = kw then e else A k') ≠ (if k = kw then t else B k)
            rcases List.mem_append.mp hk with hk | hk <;> rcases List.mem_append.mp hk' with hk' | hk'
            · rw [old B t hk, old A e hk']
              exact k5.o2 k hk k' hk'
            · rw [old B t hk, List.mem_singleton.mp hk', if_pos rfl]
              exact (ne_of_none (k5.at_ k hk) ne5).symm
            · rw [old A e hk', List.mem_singleton.mp hk, if_pos rfl]
              exact AB k' hk'
            · rw [List.mem_singleton.mp hk, List.mem_singleton.mp hk', if_pos rfl, if_pos rfl]
              exact (ne_of_none ht ne5).symm
        have h27' : H7 D2 = some (.lst ((seenTo kk (i + 1)).map fun k => V.ref (if k = kw then e else A k))) := by
          rw [h27, es, List.map_append]
          congr 3
          · refine List.map_congr_left fun k hk => ?_
            rw [if_neg fun (z : k = kw) => hm (by rw [← z]; exact hk)]
          · show _ = [V.ref (if kw = kw then e else A kw)]
            rw [if_pos rfl]
        have hm' : kw ∈ seenTo kk (i + 1) := by rw [es]; exact List.mem_append.mpr (.inr (List.mem_singleton.mpr rfl))
        have okl : ∀ k ∈ seenTo kk (i + 1), OkWord k := by
          rw [es]
          intro k hk
          rcases List.mem_append.mp hk with hk | hk
          · exact okall k hk
          · rw [List.mem_singleton.mp hk]
            exact okw
        rw [← es] at k7 g7
        clear g3 k3 hD2 hD5 k5 g5 h27 h17 AB
        obtain ⟨A1, hA1⟩ : ∃ A1 : Word → Addr, A1 = fun k => if k = kw then e else A k := ⟨_, rfl⟩
        have hD5 : H7 D2 = some (.lst ((seenTo kk (i + 1)).map fun k => V.ref (A1 k))) := by
          rw [hA1]
          exact h27'
        rw [← hA1] at k7 g7
        clear h27' hA1
        generalize (fun k => if k = kw then t else B k) = B at k7 ⊢
        have k5 := k7
        have g5 := g7
      all_goals
        have ix := idx_get hm'
        refine ⟨_, rfl, _, rfl, .inl ⟨rfl, _, SqL.of k5.lst⟩, _, rfl, ?_⟩
        try dsimp only [tNil]
        refine index_enc enc_word (by decide) (dp_wd w7) k5.dp okw okl hm' ?_
        refine ⟨D2, _, _, _, rfl, rfl, SqL.of hD5, atI_nat (v := V.ref (A1 kw)) (by rw [List.getElem?_map, ix]; rfl), ?_⟩
        have hA := g5.at_ kw hm'
        refine ⟨.inl ⟨rfl, _, SqL.of hA⟩, ?_⟩
        refine ⟨_, rfl, A1 kw, _, _, rfl, rfl, hA, by rw [vN_len]; have := withKey_len kk i kw; exact sz_lt (by omega), ?_⟩
        have out := g5.out kw hm'
        have a1 : D1 ≠ A1 kw := fun z => out (by rw [← z]; exact List.mem_cons_self)
        have a2 : D2 ≠ A1 kw := fun z => out (by rw [← z]; exact List.mem_cons_of_mem _ List.mem_cons_self)
        refine ⟨_, _, _, A1, B, rfl, Same.mut s07 (g5.new kw hm'), (upd_ne a2).trans hD5, ⟨(upd_ne a1).trans k5.lst, fun k hk => Eq.trans (upd_ne (Ne.symm (k5.o2 k hk kw hm'))) (k5.at_ k hk), k5.o1, k5.o2⟩, ?_⟩
        exact g5.put hm' (by rw [hkw, withKey_same]) fun k hk => withKey_other (hkw ▸ hk)
    · rintro σ H3 ⟨v5, v6, v7, A, B, rfl, s3, hD2, k3, g3⟩
      rw [List.length_map, hal] at hD2 g3
      exact ⟨_, rfl, q D2 H3 s3 ⟨nD2, A, hD2, g3.re fun k hk z => g3.out k hk (by rw [List.mem_singleton.mp z]; exact List.mem_cons_of_mem _ List.mem_cons_self)⟩⟩
end
end Law
end

section
set_option Elab.async false
set_option linter.all false
set_option maxRecDepth 100000
set_option maxHeartbeats 4000000
namespace Law
open PySem PySem.Spec PyProof.Rows L2 LamX QB QM
section
variable {P : Program} {w : World} {K : PySem.W.Frag} {mg : Str → Option Value} {base : Heap}
def spUndone (CE CM : Addr) : Sp := fun vs H Q _ => ∃ (M : List Addr) (m ll : Addr) (tags : Word) (Gs : List Form) (Gk : Form) (ws : List Word), vs = [.ref m] ∧ BoxAt CE CM M H m ll tags Gs Gk ws ∧
  (ws = [] → ∀ H', Same H H' → Q (.str "none") H') ∧ (ws ≠ [] → ∀ H', BoxAt CE CM M H' m ll tags Gs Gk ws.dropLast → Exc [ll] H H' → H' ll ≠ none → Q (.str "undone") H')
theorem ok__law_undone (X : TX K mg) : FnOk P w K mg base CX0 3 X.d__law_undone.a X.d__law_undone.fd ["mailbox"] (spUndone X.c_Eater X.c_Mailbox) := by
  have nd := sc__law_undone.nd
  refine X.d__law_undone.F.ok sc__law_undone (fun vs H Q E h => ?_) (fun cdv A outer s0 H vs Q E hr h => ?_)
  · obtain ⟨M, m, ll, tags, Gs, Gk, ws, rfl, _⟩ := h
    rfl
  · obtain ⟨M, m, ll, tags, Gs, Gk, ws, rfl, b, q1, q2⟩ := h
    refine ⟨_, (pss_cons (ps_set (i := 1) nd rfl (Or.inl rfl) pe_non) (pss_cons (ps_set (i := 2) nd rfl (Or.inl rfl) pe_int) (pss_cons (QX.ps_try_keep (i := 3) (Wout := fun _ _ _ _ => False) rfl rfl rfl nd rfl rfl ⟨rfl, by decide, Or.inl X.me_TagError⟩ L2.takes0 (fun W pn xe tk po => (pss_one (ps_set (i := 2) nd rfl (Or.inl rfl) (QM2.pe_methS0 (pv 0) X.cl_Mailbox X.h_Mailbox_undo (okx_Mailbox_undo X) (hr.mono (by decide)) X.d_Mailbox_undo.b (fun σ => passAt tk σ))))) (fun a oe cls d pn hz hf => (pss_one (ps_set (i := 1) nd rfl (Or.inl rfl) (pv 3))))) (pss_cons (ps_if (PW.pt (pw_and (pt_cmpR op_isN (pv 1) pe_non (nomark _)) (pw_and1 (pt_cmpR op_isN (pv 2) pe_non (nomark _))))) (pss_one (ps_ret pe_str)) pss_nil) (pss_one (ps_ret (pe_ix (QB.ix_listK K) (pe_lst (pa_cons pe_str (pa_cons pe_str pa_nil))) (pe_callTy call_int1 (by rfl) X.n_int QB.bo_int (pa_cons (pe_callB (QX.call_isXK K) (by rfl) X.n_isinstance QB.bo_isinstance (pa_cons (pv 1) (pa_cons (pe_glob (v := .ref X.e_NothingToUndo) rfl X.me_NothingToUndo rfl) pa_nil))) pa_nil)) (fun _ _ => rfl)))))))), ?_⟩
    try dsimp only [Cx.nox, Cx.wish, cxOf]
    obtain ⟨dx, pl, ke, es, ts, bb⟩ := b
    have ho := hide_sub _ _ bb.obj
    refine ⟨_, rfl, m, dx, _, rfl, ho, rfl, ?_⟩
    refine ⟨M, m, ll, tags, Gs, Gk, ws, rfl, ⟨dx, pl, ke, es, ts, bb⟩, fun e => ?_, fun e H1 b1 x1 n1 => ?_⟩
    · refine ⟨true, X.ex_NothingToUndo, fun q => Bool.noConfusion q, fun _ a ha => ⟨_, rfl, ?_⟩⟩
      have hk : (upd H a (QX.Kept (.ref X.e_NothingToUndo) none a)) a = some (QX.Kept (.ref X.e_NothingToUndo) none a) := upd_same
      have s1 : Same H (upd H a (QX.Kept (.ref X.e_NothingToUndo) none a)) := same_new ha
      refine ⟨_, rfl, rfl, _, rfl, ?_⟩
      rw [decide_eq_false (fun e => nomatch e)]
      refine iteF ?_
      refine ⟨by show 2 ≤ sizeLine; decide, fun p np => ?_⟩
      have s2 := same_new (o := .lst [V.str "odd", V.str "none"]) np
      refine ⟨_, rfl, a, _, none, _, _, true, rfl, s2 _ _ hk, .inl rfl, X.nx_NothingToUndo.exc, .own _, X.ki_NothingToUndo_NothingToUndo, ?_⟩
      refine .inr ⟨_, rfl, ?_⟩
      exact ⟨p, _, _, _, rfl, rfl, SqL.of upd_same, rfl, q1 e _ (s1.trans s2)⟩
    · refine ⟨_, rfl, rfl, _, rfl, ?_⟩
      rw [decide_eq_true rfl]
      refine iteT ?_
      refine ⟨_, rfl, rfl, _, rfl, ?_⟩
      rw [decide_eq_true rfl]
      refine iteT ?_
      exact q2 e H1 b1 x1 n1
end
end Law
end

section
set_option Elab.async false
set_option linter.all false
set_option maxRecDepth 100000
set_option maxHeartbeats 4000000
namespace Law
open PySem PySem.Spec PyProof.Rows L2 LamX QB QM
theorem inV_nats (k : Nat) (l : List Nat) : inV (.int (k : Int)) (vN l) = decide (k ∈ l) := by
  unfold inV vN
  induction l with
  | nil => simp
  | cons x l ih =>
    rw [List.map_cons, List.any_cons, ih]
    have e : eqV (.int (x : Int)) (.int (k : Int)) = decide (k = x) := by
      show ((x : Int) == (k : Int)) = _
      by_cases h : k = x
      · subst h
        simp
      · rw [decide_eq_false h]
        exact beq_eq_false_iff_ne.mpr fun z => h (Int.ofNat.inj z).symm
    rw [e]
    by_cases h : k = x <;> simp [h]
theorem vN_flat (l : List Nat) : (vN l).all flatV = true := by
  rw [List.all_eq_true]
  intro v hv
  obtain ⟨i, _, rfl⟩ := List.mem_map.mp hv
  rfl
theorem boxKeys_eq {tags : Word} {Gk F : Form} {ws : List Word} (h : ∀ wd : Word, (∀ t ∈ wd, t ∈ tags) → make tags Gk wd = make tags F wd) {c : Nat} (wo : WsOk tags c ws) : boxKeys tags Gk ws = boxKeys tags F ws :=
  List.map_congr_left fun wd hw => h wd (wo wd hw).1
/-- what is told of a letter, as data -/
def dThree (u v : Word) (l : List Nat) : PyData := .list [dWord u, dWord v, dNs l]
theorem dThree_ok {u v : Word} {l : List Nat} (hu : OkWord u) (hv : OkWord v) : SeqAt.shaped (dThree u v l) = true ∧ PyData.eqv (dThree u v l) (dThree u v l) = true := by
  have a1 := shaped_of enc_word (by decide) hu
  have a2 := shaped_of enc_word (by decide) hv
  have a3 := shaped_of (x := l) enc_nats (by decide) fun _ _ => trivial
  unfold SeqAt.shaped at a1 a2 a3
  constructor
  · unfold SeqAt.shaped dThree
    simp only [Bool.and_eq_true, decide_eq_true_eq] at a1 a2 a3 ⊢
    rw [PyData.canLay0, PyData.canLayAll0, PyData.canLayAll0, PyData.canLayAll0, PyData.canLayAll0, a1.1, a2.1, a3.1, PyData.depth, PyData.depthAll, PyData.depthAll, PyData.depthAll, PyData.depthAll]
    have b1 := enc_word.dep u
    have b2 := enc_word.dep v
    have b3 := enc_nats.dep l
    refine ⟨rfl, ?_⟩
    show _ ≤ _
    omega
  · unfold dThree
    rw [PyData.eqv, PyData.eqvAll, PyData.eqvAll, PyData.eqvAll, PyData.eqvAll, enc_word.eq, enc_word.eq, enc_nats.eq, decide_eq_true rfl, decide_eq_true rfl, decide_eq_true rfl]
    rfl
section
variable {P : Program} {w : World} {K : PySem.W.Frag} {mg : Str → Option Value} {base : Heap}
def spBoxRight (CE CM : Addr) : Sp := fun vs H Q _ => ∃ (M : List Addr) (m ll a b la : Addr) (as : List Addr) (tags : Word) (Gs : List Form) (Gk F : Form) (ws : List Word), vs = [.ref m, .ref a, .ref b, .ref la] ∧ BoxAt CE CM M H m ll tags Gs Gk ws ∧ BoxOk tags Gs Gk ∧ WordAt H a tags ∧ FormAt H b F ∧
  H la = some (.lst (as.map V.ref)) ∧ Paired (WordAt H) as ws ∧ FmOk tags F 100 ∧ WsOk tags 100 ws ∧ ws.length ≤ 100 ∧ (∀ wd : Word, (∀ t ∈ wd, t ∈ tags) → make tags Gk wd = make tags F wd) ∧ ∀ H', Same H H' → Q (.bl true) H'
theorem ok__law_box_right (X : TX K mg) : FnOk P w K mg base CX0 6 X.d__law_box_right.a X.d__law_box_right.fd ["mailbox", "tags", "key", "letters"] (spBoxRight X.c_Eater X.c_Mailbox) := by
  have nd := sc__law_box_right.nd
  refine X.d__law_box_right.F.ok sc__law_box_right (fun vs H Q E h => ?_) (fun cdv A outer s0 H vs Q E hr h => ?_)
  · obtain ⟨M, m, ll, a, b, la, as, tags, Gs, Gk, F, ws, rfl, _⟩ := h
    rfl
  · obtain ⟨M, m, ll, a, b, la, as, tags, Gs, Gk, F, ws, rfl, bx, ok, ha, hF, hla, hws, fo, wo, hl, hK, q⟩ := h
    refine ⟨_, (pss_cons (ps_set (i := 4) nd rfl (Or.inl rfl) (pe_call (ok__law_talks X) (hr.mono (by decide)) rfl X.d__law_talks.mg X.d__law_talks.F.kp X.d__law_talks.b .nil pass0 (pa_cons (pv 1) (pa_cons (pv 2) (pa_cons (pv 3) pa_nil))))) (pss_cons (ps_for PassesOwn.never rfl (pi_range1 (by rfl) X.n_range (pa_cons pe_int pa_nil)) (pg_name (i := 5) nd rfl (Or.inl rfl)) (pss_cons (ps_set (i := 6) nd rfl (Or.inl rfl) (pe_meth0 (pv 0) X.cl_Mailbox X.h_Mailbox_talks (ok_Mailbox_talks X) (hr.mono (by decide)) X.d_Mailbox_talks.b .nil pass0)) (pss_cons (ps_if (PW.pt (pw_or (pt_cmpR (QB.op_neDK K hr.units) (pv 6) (pv 4) (nomark _)) (pw_or1 (pt_cmpR op_ne (pe_callB (QO.call_lenO (ok_Mailbox___len__ X) X.h_Mailbox___len__ (hr.mono (by decide)) X.d_Mailbox___len__.b pass0) (by rfl) X.n_len PySem.boot_len (pa_cons (pv 0) pa_nil)) (pe_callB (QB.call_lenK K) (by rfl) X.n_len PySem.boot_len (pa_cons (pv 3) pa_nil)) (nomark _))))) (pss_one (ps_ret pe_bl)) pss_nil) (pss_cons (ps_for PassesOwn.never rfl (QB.pi_listK K (pv 6)) (pg_name (i := 7) nd rfl (Or.inl rfl)) (pss_one (ps_expr (QB.pe_bmK K PySem.F.plainAttrs_list PySem.F.slot_list_append PySem.F.type_list_append mt_append (pv 7) (pa_cons pe_str pa_nil))))) (pss_one (ps_expr (QB.pe_bmK K PySem.F.plainAttrs_list PySem.F.slot_list_append PySem.F.type_list_append mt_append (pv 6) (pa_cons pe_str pa_nil)))))))) (pss_cons (ps_for PassesOwn.never rfl (QB.pi_enumK K (by rfl) X.n_enumerate (pa_cons (pv 3) pa_nil)) (pg_tup (by rfl) (pgs_cons (pg_name (i := 8) nd rfl (Or.inr rfl)) (pgs_cons (pg_name (i := 9) nd rfl (Or.inl rfl)) (pgs_nil)))) (pss_one (ps_for PassesOwn.never rfl (pi_range1 (by rfl) X.n_range (pa_cons pe_int pa_nil)) (pg_name (i := 5) nd rfl (Or.inl rfl)) (pss_cons (ps_set (i := 10) nd rfl (Or.inl rfl) (pe_lst (pa_cons (QM2.pe_ixO (ok_Mailbox___getitem__ X) X.h_Mailbox___getitem__ (QM2.fn_of X.d_Mailbox___getitem__.F) (hr.mono (by decide)) X.d_Mailbox___getitem__.b pass0 (pv 0) (pv 8) (fun _ _ => by with_unfolding_all rfl)) (pa_cons (pe_meth (pv 0) X.cl_Mailbox X.h_Mailbox_key_of (ok_Mailbox_key_of X) (hr.mono (by decide)) X.d_Mailbox_key_of.b .nil pass0 (pa_cons (pv 8) pa_nil)) (pa_cons (pe_meth (pv 0) X.cl_Mailbox X.h_Mailbox_talk (ok_Mailbox_talk X) (hr.mono (by decide)) X.d_Mailbox_talk.b .nil pass0 (pa_cons (pv 8) pa_nil)) pa_nil))))) (pss_cons (ps_set (i := 11) nd rfl (Or.inl rfl) (pe_ix (QB.ix_listK K) (pe_lc (own := [("some", 7)]) (g := gName 7) rfl nd (QB.pi_listK K (pv 4)) (blkOk_by (N := ["mailbox", "tags", "key", "letters", "talks", "turn", "found", "some", "number", "subject", "told", "talk"]) (sc := defScope s__law_box_right) (by decide +kernel)) (fun _ _ _ _ _ => pg_name (i := 7) nd rfl (Or.inl rfl)) (fun _ _ _ _ _ => pts_one (pt_cmpR (QB.op_inK K) (pv 8) (pv 7) rfl)) (fun _ _ _ _ _ => (pv 7))) pe_int (fun _ _ => rfl))) (pss_cons (ps_if (pt_cmpR (QB.op_neDK K hr.units) (pv 10) (pe_lst (pa_cons (pv 9) (pa_cons (pe_call (ok__law_eaten X) (hr.mono (by decide)) rfl X.d__law_eaten.mg X.d__law_eaten.F.kp X.d__law_eaten.b .nil pass0 (pa_cons (pv 1) (pa_cons (pv 2) (pa_cons (pv 9) pa_nil)))) (pa_cons (pv 11) pa_nil)))) (nomark _)) (pss_one (ps_ret pe_bl)) pss_nil) (pss_one (ps_for PassesOwn.never rfl (QB.pi_listK K (pv 10)) (pg_name (i := 7) nd rfl (Or.inl rfl)) (pss_one (ps_expr (QB.pe_bmK K PySem.F.plainAttrs_list PySem.F.slot_list_append PySem.F.type_list_append mt_append (pv 7) (pa_cons pe_str pa_nil)))))))))))) (pss_one (ps_ret pe_bl))))), ?_⟩
    try dsimp only [Cx.nox, Cx.wish, cxOf]
    have hal : as.length = ws.length := Paired.length hws
    have wo1 : WsOk tags 1000 ws := fun wd hw => ⟨(wo wd hw).1, by have := (wo wd hw).2; omega⟩
    have ek := boxKeys_eq hK wo
    obtain ⟨kk, hkk⟩ : ∃ kk, kk = boxKeys tags F ws := ⟨_, rfl⟩
    rw [← hkk] at ek
    obtain ⟨dx, ho⟩ : ∃ dx, ∃ pl ke, H m = some (.ins X.c_Mailbox dx (boxFs pl ke ll)) := by
      obtain ⟨dx, pl, ke, _, _, bb⟩ := bx
      exact ⟨dx, pl, ke, hide_sub _ _ bb.obj⟩
    obtain ⟨pl, ke, ho⟩ := ho
    refine ⟨_, rfl, _, rfl, _, rfl, a, b, la, as, tags, F, ws, rfl, ha, hF, hla, hws, ok.to, fo, wo1, by omega, fun r H1 s1 t1 => ?_⟩
    rw [← hkk] at t1
    obtain ⟨r0, A, hr1, gA⟩ := id t1
    refine ⟨(2 : Int), rfl, by decide, by decide, ?_⟩
    refine for_it (walk_range (lo := 0) (n := 2)) (fun i σ H' => ∃ v5 v6 v7 : Option V, σ = [some (.ref m), some (.ref a), some (.ref b), some (.ref la), some (.ref r), v5, v6, v7, none, none, none, none] ∧ Same H1 H')
      ⟨none, none, none, rfl, Same.refl H1⟩ (fun _ _ _ _ _ => True.intro) ?_ ?_
    · rintro i x σ H2 H2' hi ⟨v5, v6, v7, rfl, s2⟩ ⟨rfl, rfl⟩
      have s02 := s1.trans s2
      refine ⟨_, rfl, m, dx, _, rfl, s02 _ _ ho, rfl, ?_⟩
      refine ⟨M, m, ll, tags, Gs, Gk, ws, rfl, bx.same s02, ok, wo1, by omega, fun f H3 s3 t3 => ?_⟩
      rw [ek] at t3
      have s03 := s02.trans s3
      have s13 := s2.trans s3
      have dt := dTalks_ok kk ws.length
      refine ⟨_, rfl, _, rfl, _, _, t3.dp, (t1.same s13).dp, dt.1, dt.1, ?_⟩
      rw [dt.2]
      refine ⟨_, rfl, iteF ?_⟩
      refine ⟨_, rfl, m, dx, _, rfl, s03 _ _ ho, M, m, ll, tags, Gs, Gk, ws, rfl, bx.same s03, ws.length, rfl, Nat.lt_of_le_of_lt hl (by decide), ?_⟩
      refine ⟨_, rfl, _, _, rfl, .inl (SqL.of (s03 _ _ hla)), ?_⟩
      refine ⟨rfl, _, rfl, ?_⟩
      rw [List.length_map, hal, decide_eq_true (show V.int ((ws.length : Nat) : Int) = V.int ((ws.length : Nat) : Int) from rfl)]
      refine iteF ?_
      obtain ⟨f0, A3, hf3, g3⟩ := t3
      refine ⟨_, rfl, _, rfl, ⟨_, SqL.of hf3⟩, ?_⟩
      refine for_it (walk_list (K := K) (a := f) (xs := (seenTo kk ws.length).map fun k => V.ref (A3 k))) (fun j σ H' => ∃ v7 : Option V, σ = [some (.ref m), some (.ref a), some (.ref b), some (.ref la), some (.ref r), some (.int (0 + (i : Int))), some (.ref f), v7, none, none, none, none] ∧ Same H1 H' ∧ H' f = some (.lst ((seenTo kk ws.length).map fun k => V.ref (A3 k))) ∧ ∀ k ∈ seenTo kk ws.length, ∃ xs, H' (A3 k) = some (.lst xs) ∧ xs.length ≤ 1000 + j)
        ⟨_, rfl, s13, hf3, fun k hk => ⟨_, g3.at_ k hk, by rw [vN_len]; have := withKey_len kk ws.length k; omega⟩⟩ (fun j σ H' _ ⟨_, _, _, z, _⟩ => SqL.of z) ?_ ?_
      · rintro j x σ H4 H4' hj ⟨v7, rfl, s4, hf4, al⟩ ⟨rfl, hx⟩
        have hx : ((seenTo kk ws.length).map fun k => V.ref (A3 k))[j]? = some x := hx
        rw [List.length_map] at hj
        rw [List.getElem?_map, List.getElem?_eq_getElem hj] at hx
        cases hx
        have hm : (seenTo kk ws.length)[j] ∈ seenTo kk ws.length := List.getElem_mem hj
        generalize (seenTo kk ws.length)[j] = k at hm ⊢
        obtain ⟨xs, hxs, hxl⟩ := al k hm
        have hjl := seenTo_len kk ws.length
        refine ⟨_, rfl, .inl ⟨rfl, _, SqL.of hxs⟩, A3 k, _, _, rfl, rfl, hxs, sz_lt (by omega), ?_⟩
        have kf : f ≠ A3 k := fun z => g3.out k hm (by rw [← z]; exact List.mem_cons_self)
        refine ⟨_, rfl, Same.mut s4 (s2.free (g3.new k hm)), (upd_ne kf).trans hf4, fun k' hk' => ?_⟩
        by_cases e : A3 k' = A3 k
        · rw [e, upd_same]
          exact ⟨_, rfl, by rw [List.length_append]; show _ + 1 ≤ _; omega⟩
        · obtain ⟨ys, hy, hyl⟩ := al k' hk'
          exact ⟨ys, (upd_ne e).trans hy, by omega⟩
      · rintro σ H4 ⟨v7, rfl, s4, hf4, al⟩
        have hjl := seenTo_len kk ws.length
        refine ⟨_, rfl, .inl ⟨rfl, _, SqL.of hf4⟩, f, _, _, rfl, rfl, hf4, by rw [List.length_map]; exact sz_lt (by omega), ?_⟩
        exact ⟨_, _, _, rfl, Same.mut s4 (s2.free f0)⟩
    · rintro σ H2 ⟨v5, v6, v7, rfl, s2⟩
      have s02 := s1.trans s2
      refine ⟨_, rfl, _, _, rfl, SqL.of (s02 _ _ hla), ?_⟩
      refine for_it (walk_enum (K := K) (a := la) (xs := as.map V.ref)) (fun i σ H' => ∃ v5 v6 v7 v8 v9 v10 v11 : Option V, σ = [some (.ref m), some (.ref a), some (.ref b), some (.ref la), some (.ref r), v5, v6, v7, v8, v9, v10, v11] ∧ Same H1 H')
        ⟨_, _, _, _, _, _, _, rfl, s2⟩ (fun i σ H' _ ⟨_, _, _, _, _, _, _, _, z⟩ => SqL.of ((s1.trans z) _ _ hla)) ?_ ?_
      · clear v5 v6 v7
        rintro i v σ H3 H4 hi ⟨v5, v6, v7, v8, v9, v10, v11, rfl, s3⟩ ⟨tp, x1, x2, rfl, ntp, rfl, e1, e2⟩
        cases e1
        rw [List.length_map, hal] at hi
        obtain ⟨c, hc, hcw⟩ := paired_get hws (List.getElem?_eq_getElem hi)
        have e2 : (as.map V.ref)[i]? = some x2 := e2
        rw [List.getElem?_map, hc] at e2
        cases e2
        have s4 : Same H3 (upd H3 tp (.tup [.int (i : Int), .ref c])) := same_new ntp
        have htp : (upd H3 tp (.tup [.int (i : Int), .ref c])) tp = some (.tup [.int (i : Int), .ref c]) := upd_same
        generalize upd H3 tp (.tup [.int (i : Int), .ref c]) = H4 at s4 htp ⊢
        have s14 := s3.trans s4
        refine ⟨tp, _, rfl, SqT.of htp, rfl, _, _, rfl, _, _, rfl, rfl, ?_⟩
        refine ⟨(2 : Int), rfl, by decide, by decide, ?_⟩
        refine for_it (walk_range (lo := 0) (n := 2)) (fun j σ H' => ∃ v5 v6 v7 v10 v11 : Option V, σ = [some (.ref m), some (.ref a), some (.ref b), some (.ref la), some (.ref r), v5, v6, v7, some (.int (i : Int)), some (.ref c), v10, v11] ∧ Same H1 H')
          ⟨_, _, _, _, _, rfl, s14⟩ (fun _ _ _ _ _ => True.intro) ?_ ?_
        · clear v5 v6 v7 v8 v9 v10 v11 s14 s4 s3 htp ntp
          rintro j x σ H5 H5' hj ⟨v5, v6, v7, v10, v11, rfl, s5⟩ ⟨rfl, rfl⟩
          have s05 := s1.trans s5
          obtain ⟨kw, hkw⟩ : ∃ kw, kw = kk.getD i [] := ⟨_, rfl⟩
          have ekw : kw = make tags F (ws[i]) := by rw [hkw, hkk, boxKeys_get hi]
          have okk : OkWord kw := by
            rw [ekw]
            exact fun t ht => (ok.to.names t (make_sub fo.words (wo.get hi).1 t ht)).txt
          have okc : OkWord (ws[i]) := fun t ht => (ok.to.names t ((wo.get hi).1 t ht)).txt
          refine ⟨_, rfl, _, rfl, m, dx, _, rfl, s05 _ _ ho, M, m, ll, tags, Gs, Gk, ws, i, rfl, bx.same s05, hi, fun p1 H6 s6 n6 w6 => ?_⟩
          have w6 : WordAt H6 p1 (ws[i]) := by
            have e : ws.getD i [] = ws[i] := by
              rw [List.getD_eq_getElem?_getD, List.getElem?_eq_getElem hi]
              rfl
            exact e ▸ w6
          have s06 := s05.trans s6
          refine ⟨_, rfl, m, dx, _, rfl, s06 _ _ ho, rfl, ?_⟩
          refine ⟨_, rfl, M, m, ll, tags, Gs, Gk, ws, i, rfl, bx.same s06, hi, fun p2 H7 s7 n7 w7 => ?_⟩
          have w7 : WordAt H7 p2 kw := by
            rw [hkw, ← ek]
            exact w7
          have s07 := s06.trans s7
          refine ⟨_, rfl, m, dx, _, rfl, s07 _ _ ho, rfl, ?_⟩
          refine ⟨_, rfl, M, m, ll, tags, Gs, Gk, ws, i, rfl, bx.same s07, ok, wo1, hi, by omega, fun p3 H8 s8 n8 w8 => ?_⟩
          rw [ek, ← hkw] at w8
          have s08 := s07.trans s8
          have s18 : Same H1 H8 := ((s5.trans s6).trans s7).trans s8
          have n1 : H1 p1 = none := s5.free n6
          have n2 : H1 p2 = none := (s5.trans s6).free n7
          have n3 : H1 p3 = none := ((s5.trans s6).trans s7).free n8
          have w6 := (s7.trans s8) _ _ w6
          have w7 := s8 _ _ w7
          refine ⟨by show 3 ≤ sizeLine; decide, fun p np => ?_⟩
          have s9 : Same H8 (upd H8 p (.lst [.ref p1, .ref p2, .ref p3])) := same_new np
          have hp9 : (upd H8 p (.lst [.ref p1, .ref p2, .ref p3])) p = some (.lst [.ref p1, .ref p2, .ref p3]) := upd_same
          have pp1 : p ≠ p1 := (ne_of_none w6 np).symm
          have pp2 : p ≠ p2 := (ne_of_none w7 np).symm
          have pp3 : p ≠ p3 := (ne_of_none w8 np).symm
          generalize upd H8 p (.lst [.ref p1, .ref p2, .ref p3]) = H9 at s9 hp9 ⊢
          have s19 := s18.trans s9
          have s09 := s08.trans s9
          have w6 := s9 _ _ w6
          have w7 := s9 _ _ w7
          have w8 := s9 _ _ w8
          -- talk
          refine ⟨_, rfl, _, rfl, ⟨_, SqL.of (s19 _ _ hr1)⟩, fun D nD => ?_⟩
          refine lc_filter (walk_list (K := K) (a := r) (xs := (seenTo kk ws.length).map fun k => V.ref (A k))) nD (by rw [List.length_map]; have := seenTo_len kk ws.length; omega) (fun H' s' => SqL.of ((s19.trans s') _ _ hr1)) (fun n => V.ref (A ((seenTo kk ws.length).getD n []))) (fun n => decide (i ∈ withKey kk ws.length ((seenTo kk ws.length).getD n []))) ?_ ?_
          · rintro n x Ha Hb k N hn sa ⟨rfl, hx⟩ y1 y2
            rw [List.length_map] at hn
            have hx : ((seenTo kk ws.length).map fun k => V.ref (A k))[n]? = some x := hx
            have eg : (seenTo kk ws.length).getD n [] = (seenTo kk ws.length)[n] := by
              rw [List.getD_eq_getElem?_getD, List.getElem?_eq_getElem hn]
              rfl
            rw [eg] at y1 y2
            rw [List.getElem?_map, List.getElem?_eq_getElem hn] at hx
            cases hx
            have hm : (seenTo kk ws.length)[n] ∈ seenTo kk ws.length := List.getElem_mem hn
            generalize (seenTo kk ws.length)[n] = u at hm y1 y2 ⊢
            refine ⟨rfl, _, rfl, _, rfl, A u, _, rfl, .inl (SqL.of ((s19.trans sa) _ _ (gA.at_ u hm))), rfl, vN_flat _, ?_⟩
            rw [inV_nats]
            by_cases e : i ∈ withKey kk ws.length u
            · rw [decide_eq_true e]
              exact ⟨_, rfl, iteT ⟨_, rfl, y1 (decide_eq_true e) _ (Same.refl _)⟩⟩
            · rw [decide_eq_false e]
              exact ⟨_, rfl, iteF (y2 (decide_eq_false e) _ (Same.refl _))⟩
          · intro Ha sa ha'
            rw [List.length_map] at ha'
            have fe : ((List.range (seenTo kk ws.length).length).filter fun n => decide (i ∈ withKey kk ws.length ((seenTo kk ws.length).getD n []))).map (fun n => V.ref (A ((seenTo kk ws.length).getD n []))) = [V.ref (A kw)] := by
              have key : ∀ l : List Word, ((List.range l.length).filter fun n => decide (i ∈ withKey kk ws.length (l.getD n []))).map (fun n => V.ref (A (l.getD n []))) = (l.filter fun k => decide (i ∈ withKey kk ws.length k)).map fun k => V.ref (A k) := by
                intro l
                have h2 : (List.range l.length).map (fun n => l.getD n []) = l := by
                  refine List.ext_getElem? fun n => ?_
                  rw [List.getElem?_map]
                  by_cases hn : n < l.length
                  · rw [List.getElem?_range hn, List.getElem?_eq_getElem hn]
                    show some (l.getD n []) = _
                    rw [List.getD_eq_getElem?_getD, List.getElem?_eq_getElem hn]
                    rfl
                  · rw [List.getElem?_eq_none (by rw [List.length_range]; omega), List.getElem?_eq_none (by omega)]
                    rfl
                rw [show (l.filter fun k => decide (i ∈ withKey kk ws.length k)) = ((List.range l.length).map fun n => l.getD n []).filter (fun k => decide (i ∈ withKey kk ws.length k)) from by rw [h2], List.filter_map, List.map_map]
                rfl
              rw [key, filter_one hi, ← hkw]
              rfl
            rw [fe] at ha'
            refine ⟨D, _, 0, _, rfl, rfl, SqL.of ha', rfl, ?_⟩
            have s1a := s19.trans sa
            have s0a := s09.trans sa
            have hmk : kw ∈ seenTo kk ws.length := hkw ▸ mem_seenTo hi
            have ht := s1a _ _ (gA.at_ kw hmk)
            refine ⟨_, rfl, ?_⟩
            refine ⟨_, rfl, _, rfl, _, rfl, _, rfl, a, b, c, tags, F, ws[i], rfl, Same.word s0a ha, Same.form s0a hF, Same.word s0a hcw, fo.good, (wo.get hi).1, by have := (wo.get hi).2; omega, fun s hs => by have := fo.len s hs; omega, fun p4 Hb sb nb hb => ?_⟩
            have hb : WordAt Hb p4 kw := by
              rw [ekw]
              exact hb
            refine ⟨_, rfl, by show 3 ≤ sizeLine; decide, fun p5 n5 => ?_⟩
            have sc := sb.trans (same_new (o := .lst [.ref c, .ref p4, .ref (A kw)]) n5)
            have sac := sa.trans sc
            have d1 : Dp K (upd Hb p5 (.lst [.ref c, .ref p4, .ref (A kw)])) (.ref p) (dThree (ws[i]) kw (withKey kk ws.length kw)) :=
              .lst (SqL.of (sac _ _ hp9)) (.cons (dp_wd (Same.word sac w6)) (.cons (dp_wd (Same.word sac w7)) (.cons (dp_nats (sac _ _ w8)) .nil)))
            have d2 : Dp K (upd Hb p5 (.lst [.ref c, .ref p4, .ref (A kw)])) (.ref p5) (dThree (ws[i]) kw (withKey kk ws.length kw)) :=
              .lst (SqL.of upd_same) (.cons (dp_wd (Same.word (s0a.trans sc) hcw)) (.cons (dp_wd (Same.word (same_new n5) hb)) (.cons (dp_nats (sc _ _ ht)) .nil)))
            have dk := dThree_ok (l := withKey kk ws.length kw) okc okk
            refine ⟨_, _, d1, d2, dk.1, dk.1, ?_⟩
            rw [dk.2]
            refine ⟨_, rfl, iteF ?_⟩
            have s1c := s19.trans sac
            have hpc := sac _ _ hp9
            have l1 := sac _ _ w6
            have l2 := sac _ _ w7
            have l3 := sac _ _ w8
            clear d1 d2
            generalize upd Hb p5 (.lst [.ref c, .ref p4, .ref (A kw)]) = Hc at s1c hpc l1 l2 l3 ⊢
            have wl : (ws[i]).length ≤ 100 := (wo.get hi).2
            have kl : kw.length ≤ 200 := by
              rw [ekw]
              have := make_len (tags := tags) (wd := ws[i]) fo.len
              omega
            have nl := withKey_len kk ws.length kw
            refine ⟨_, rfl, _, rfl, ⟨_, SqL.of hpc⟩, ?_⟩
            refine for_it (walk_list (K := K) (a := p) (xs := [V.ref p1, .ref p2, .ref p3])) (fun n σ H' => ∃ v5 v6 v7 v11 : Option V, σ = [some (.ref m), some (.ref a), some (.ref b), some (.ref la), some (.ref r), v5, v6, v7, some (.int (i : Int)), some (.ref c), some (.ref p), v11] ∧ Same H1 H' ∧ H' p = some (.lst [.ref p1, .ref p2, .ref p3]) ∧ ∀ y ∈ [p1, p2, p3], ∃ xs, H' y = some (.lst xs) ∧ xs.length ≤ 1000 + n)
              ⟨_, _, _, _, rfl, s1c, hpc, fun y hy => ?_⟩ (fun n σ H' _ ⟨_, _, _, _, _, _, z, _⟩ => SqL.of z) ?_ ?_
            · rcases List.mem_cons.mp hy with rfl | hy
              · exact ⟨_, l1, by rw [vS_len]; omega⟩
              · rcases List.mem_cons.mp hy with rfl | hy
                · exact ⟨_, l2, by rw [vS_len]; omega⟩
                · rw [List.mem_singleton.mp hy]
                  exact ⟨_, l3, by rw [vN_len]; omega⟩
            · clear v5 v6 v7 v10 v11
              rintro n x σ Hd Hd' hn ⟨v5, v6, v7, v11, rfl, sd, hpd, al⟩ ⟨rfl, hx⟩
              have hx : [V.ref p1, .ref p2, .ref p3][n]? = some x := hx
              obtain ⟨y, hy, rfl, ny, py⟩ : ∃ y, y ∈ [p1, p2, p3] ∧ x = .ref y ∧ H1 y = none ∧ p ≠ y := by
                have hn : n < 3 := hn
                rcases (by omega : n = 0 ∨ n = 1 ∨ n = 2) with rfl | rfl | rfl
                · cases hx
                  exact ⟨p1, List.mem_cons_self, rfl, n1, pp1⟩
                · cases hx
                  exact ⟨p2, List.mem_cons_of_mem _ List.mem_cons_self, rfl, n2, pp2⟩
                · cases hx
                  exact ⟨p3, List.mem_cons_of_mem _ (List.mem_cons_of_mem _ List.mem_cons_self), rfl, n3, pp3⟩
              have hn : n < 3 := hn
              obtain ⟨xs, hxs, hxl⟩ := al y hy
              refine ⟨_, rfl, .inl ⟨rfl, _, SqL.of hxs⟩, y, _, _, rfl, rfl, hxs, sz_lt (by omega), ?_⟩
              refine ⟨_, _, _, _, rfl, Same.mut sd ny, (upd_ne py).trans hpd, fun y' hy' => ?_⟩
              by_cases e : y' = y
              · rw [e, upd_same]
                exact ⟨_, rfl, by rw [List.length_append]; show _ + 1 ≤ _; omega⟩
              · obtain ⟨ys, h1, h2⟩ := al y' hy'
                exact ⟨ys, (upd_ne e).trans h1, by omega⟩
            · clear v5 v6 v7 v10 v11
              rintro σ Hd ⟨v5, v6, v7, v11, rfl, sd, _⟩
              exact ⟨_, _, _, _, _, rfl, sd⟩
        · clear v5 v6 v7 v8 v9 v10 v11
          rintro σ H5 ⟨v5, v6, v7, v10, v11, rfl, s5⟩
          exact ⟨_, _, _, _, _, _, _, rfl, s5⟩
      · clear v5 v6 v7
        rintro σ H3 ⟨v5, v6, v7, v8, v9, v10, v11, rfl, s3⟩
        exact q H3 (s1.trans s3)
end
end Law
end

section
set_option Elab.async false
set_option linter.all false
set_option maxRecDepth 100000
set_option maxHeartbeats 4000000
namespace Law
open PySem PySem.Spec PyProof.Rows L2 LamX QB QM
theorem hide_excL {M N : List Addr} {H H' : Hp} (h : ∀ n ∈ N, n ∈ M) (x : Exc N H H') : Same (hide M H) (hide M H') := fun b o z => by
  obtain ⟨n, z⟩ := hide_get z
  exact hide_at n (x b o (fun y => n (h b y)) z)
theorem BoxAt.exc {CE CM : Addr} {M N : List Addr} {H H' : Hp} {m ll : Addr} {tags : Word} {Gs : List Form} {Gk : Form} {ws : List Word} (b : BoxAt CE CM M H m ll tags Gs Gk ws) (h : ∀ n ∈ N, n ∈ M) (x : Exc N H H') (n : ll ∉ N) : BoxAt CE CM M H' m ll tags Gs Gk ws := by
  obtain ⟨dx, pl, ke, es, ts, b⟩ := b
  exact ⟨dx, pl, ke, es, ts, b.move (hide_excL h x) ((x _ _ n b.lst).trans b.lst.symm)⟩
/-- the law's own letters -/
structure LetsAt (M : List Addr) (H : Hp) (la : Addr) (as : List Addr) (ws : List Word) : Prop where
  lst : H la = some (.lst (as.map V.ref))
  all : Paired (WordAt (hide M H)) as ws
  mem : la ∈ M
theorem LetsAt.exc {M N : List Addr} {H H' : Hp} {la : Addr} {as : List Addr} {ws : List Word} (b : LetsAt M H la as ws) (h : ∀ n ∈ N, n ∈ M) (x : Exc N H H') (n : la ∉ N) : LetsAt M H' la as ws :=
  ⟨x _ _ n b.lst, L2.Paired.mapP b.all fun _ _ z => hide_excL h x _ _ z, b.mem⟩
theorem LetsAt.len {M : List Addr} {H : Hp} {la : Addr} {as : List Addr} {ws : List Word} (b : LetsAt M H la as ws) : as.length = ws.length := Paired.length b.all
theorem LetsAt.get {M : List Addr} {H : Hp} {la : Addr} {as : List Addr} {ws : List Word} (b : LetsAt M H la as ws) {i : Nat} (hi : i < ws.length) : ∃ c, as[i]? = some c ∧ WordAt H c (ws[i]) := by
  obtain ⟨c, h1, h2⟩ := paired_get b.all (List.getElem?_eq_getElem hi)
  exact ⟨c, h1, hide_sub _ _ h2⟩
theorem LetsAt.push {M : List Addr} {H : Hp} {la c : Addr} {as : List Addr} {ws : List Word} {wd : Word} (b : LetsAt M H la as ws) (h : WordAt H c wd) (n : c ∉ M) : LetsAt M (upd H la (.lst (as.map V.ref ++ [V.ref c]))) la (as ++ [c]) (ws ++ [wd]) :=
  ⟨by rw [upd_same, List.map_append]; rfl, Paired.snoc (L2.Paired.mapP b.all fun _ _ z => hide_mut b.mem _ _ z) (hide_mut b.mem _ _ (hide_at n h)), b.mem⟩
theorem LetsAt.pop {M : List Addr} {H : Hp} {la : Addr} {as : List Addr} {ws : List Word} (b : LetsAt M H la as ws) : LetsAt M (upd H la (.lst (as.map V.ref).dropLast)) la as.dropLast ws.dropLast :=
  ⟨by rw [upd_same, List.map_dropLast], paired_drop (L2.Paired.mapP b.all fun _ _ z => hide_mut b.mem _ _ z), b.mem⟩
theorem LetsAt.dp {K : PySem.W.Frag} {M : List Addr} {H : Hp} {la : Addr} {as : List Addr} {ws : List Word} (b : LetsAt M H la as ws) : Dp K H (.ref la) (.list (ws.map dWord)) := by
  refine .lst (SqL.of b.lst) ?_
  have key : ∀ {as : List Addr} {ws : List Word}, Paired (WordAt (hide M H)) as ws → DpAll K H (as.map V.ref) (ws.map dWord) := by
    intro as ws h
    induction h with
    | nil => exact .nil
    | cons h _ ih => exact .cons (dp_wd (Same.word hide_sub h)) ih
  exact key b.all
/-- what the law has drawn, and what stays -/
structure Stay (M : List Addr) (H : Hp) (p a ev b : Addr) (fs : List Addr) (tags : Word) (Fs : List Form) (F : Form) : Prop where
  pM : p ∈ M
  tg : WordAt (hide M H) a tags
  ev : hide M H ev = some (.lst (fs.map V.ref))
  evs : Paired (FormAt (hide M H)) fs Fs
  key : FormAt (hide M H) b F
theorem Stay.exc {M N : List Addr} {H H' : Hp} {p a ev b : Addr} {fs : List Addr} {tags : Word} {Fs : List Form} {F : Form} (s : Stay M H p a ev b fs tags Fs F) (h : ∀ n ∈ N, n ∈ M) (x : Exc N H H') : Stay M H' p a ev b fs tags Fs F := by
  have y := hide_excL h x
  exact ⟨s.pM, Same.word y s.tg, y _ _ s.ev, L2.Paired.mapP s.evs fun _ _ z => Same.form y z, Same.form y s.key⟩
theorem trN {M N : List Addr} {H H' : Hp} (h : ∀ b ∈ M, H b ≠ none) (x : Exc N H H') (n : ∀ b ∈ N, H' b ≠ none) : ∀ b ∈ M, H' b ≠ none := fun b hb e => by
  by_cases z : b ∈ N
  · exact n b z e
  · cases q : H b with
    | none => exact h b hb q
    | some o =>
      rw [x b o z q] at e
      cases e
theorem PileAt.ok {H : Hp} {p : Addr} (h : PileAt H p) : H p ≠ none := fun z => by
  obtain ⟨_, _, _, h⟩ := h
  rw [h] at z
  cases z
theorem PileAt.exc {N : List Addr} {H H' : Hp} {p : Addr} (h : PileAt H p) (x : Exc N H H') (n : p ∉ N) : PileAt H' p := by
  obtain ⟨_, _, _, h⟩ := h
  exact ⟨_, _, _, x _ _ n h⟩
theorem WsOk.snoc {tags : Word} {c : Nat} {ws : List Word} {wd : Word} (h : WsOk tags c ws) (h1 : ∀ t ∈ wd, t ∈ tags) (h2 : wd.length ≤ c) : WsOk tags c (ws ++ [wd]) := fun u hu => by
  rcases List.mem_append.mp hu with hu | hu
  · exact h u hu
  · rw [List.mem_singleton.mp hu]
    exact ⟨h1, h2⟩
theorem WsOk.mono {tags : Word} {c d : Nat} {ws : List Word} (h : WsOk tags c ws) (l : c ≤ d) : WsOk tags d ws := fun u hu => ⟨(h u hu).1, Nat.le_trans (h u hu).2 l⟩
theorem WsOk.ok {tags : Word} {c : Nat} {ws : List Word} (h : WsOk tags c ws) (to : TagsOk tags) : ∀ x ∈ ws, OkWord x := fun x hx t ht => (to.names t ((h x hx).1 t ht)).txt
theorem WsOk.drop {tags : Word} {c : Nat} {ws : List Word} (h : WsOk tags c ws) : WsOk tags c ws.dropLast := fun u hu => h u (List.dropLast_subset _ hu)
theorem BoxAt.re {CE CM : Addr} {M M' : List Addr} {H H' : Hp} {m ll : Addr} {tags : Word} {Gs : List Form} {Gk : Form} {ws : List Word} (b : BoxAt CE CM M H m ll tags Gs Gk ws) (s : Same (hide M H) (hide M' H')) (e : ∀ {o}, H ll = some o → H' ll = some o) (h : ll ∈ M → ll ∈ M') : BoxAt CE CM M' H' m ll tags Gs Gk ws := by
  obtain ⟨dx, pl, ke, es, ts, b⟩ := b
  exact ⟨dx, pl, ke, es, ts, s _ _ b.obj, b.pro.same s, b.key.same s, e b.lst, L2.Paired.mapP b.all fun _ _ z => z.same s, h b.mem⟩
theorem hide_grow {M : List Addr} {H : Hp} {d : Addr} {o : HO} (n : H d = none) : Same (hide M H) (hide (d :: M) (upd H d o)) := fun b u z => by
  obtain ⟨h1, h2⟩ := hide_get z
  have e : b ≠ d := ne_of_none h2 n
  exact hide_at (fun y => (List.mem_cons.mp y).elim e h1) ((upd_ne e).trans h2)
theorem hide_less {M : List Addr} {H : Hp} {d : Addr} : Same (hide (d :: M) H) (hide M H) := fun b u z => by
  obtain ⟨h1, h2⟩ := hide_get z
  exact hide_at (fun y => h1 (List.mem_cons_of_mem _ y)) h2
theorem filter_refs {A : Word → Addr} {kk : List Word} {n i : Nat} (hi : i < n) : ((List.range (seenTo kk n).length).filter fun x => decide (i ∈ withKey kk n ((seenTo kk n).getD x []))).map (fun x => V.ref (A ((seenTo kk n).getD x []))) = [V.ref (A (kk.getD i []))] := by
  have key : ∀ l : List Word, ((List.range l.length).filter fun x => decide (i ∈ withKey kk n (l.getD x []))).map (fun x => V.ref (A (l.getD x []))) = (l.filter fun k => decide (i ∈ withKey kk n k)).map fun k => V.ref (A k) := by
    intro l
    have h2 : (List.range l.length).map (fun x => l.getD x []) = l := by
      refine List.ext_getElem? fun x => ?_
      rw [List.getElem?_map]
      by_cases hn : x < l.length
      · rw [List.getElem?_range hn, List.getElem?_eq_getElem hn]
        show some (l.getD x []) = _
        rw [List.getD_eq_getElem?_getD, List.getElem?_eq_getElem hn]
        rfl
      · rw [List.getElem?_eq_none (by rw [List.length_range]; omega), List.getElem?_eq_none (by omega)]
        rfl
    rw [show (l.filter fun k => decide (i ∈ withKey kk n k)) = ((List.range l.length).map fun x => l.getD x []).filter (fun k => decide (i ∈ withKey kk n k)) from by rw [h2], List.filter_map, List.map_map]
    rfl
  rw [key, filter_one hi]
  rfl
section
variable {P : Program} {w : World} {K : PySem.W.Frag} {mg : Str → Option Value} {base : Heap}
/-- a deed is right, and both sides went on alike -/
def spDeed (CE CM : Addr) : Sp := fun vs H Q _ => ∃ (M : List Addr) (p m ll a ev b la : Addr) (as fs : List Addr) (tags : Word) (Gs Fs : List Form) (Gk F : Form) (ws : List Word) (c : Nat), vs = [.ref p, .ref m, .ref a, .ref ev, .ref b, .ref la] ∧
  BoxAt CE CM M H m ll tags Gs Gk ws ∧ BoxOk tags Gs Gk ∧ Stay M H p a ev b fs tags Fs F ∧ LetsAt M H la as ws ∧ PileAt H p ∧ (∀ b ∈ M, H b ≠ none) ∧ ll ∈ M ∧ p ≠ ll ∧ p ≠ la ∧ ll ≠ la ∧
  FmOk tags F 100 ∧ (∀ F ∈ Fs, FmOk tags F 100) ∧ Fs.length = Gs.length ∧ (∀ wd : Word, (∀ t ∈ wd, t ∈ tags) → make tags Gk wd = make tags F wd) ∧ (∀ j < Gs.length, ∀ wd : Word, (∀ t ∈ wd, t ∈ tags) → make tags (Gs.getD j []) wd = make tags (Fs.getD j []) wd) ∧
  WsOk tags c ws ∧ 4 ≤ c ∧ c ≤ 90 ∧ ws.length ≤ 90 ∧
  ∀ H' ws' as', Exc [p, ll, la] H H' → PileAt H' p → H' ll ≠ none → BoxAt CE CM M H' m ll tags Gs Gk ws' → LetsAt M H' la as' ws' → WsOk tags (c + 2) ws' → ws'.length ≤ ws.length + 1 → Q (.bl true) H'
theorem ok__law_deed_right (X : TX K mg) : FnOk P w K mg base CX0 7 X.d__law_deed_right.a X.d__law_deed_right.fd ["pile", "mailbox", "tags", "every", "key", "letters"] (spDeed X.c_Eater X.c_Mailbox) := by
  have nd := sc__law_deed_right.nd
  refine X.d__law_deed_right.F.ok sc__law_deed_right (fun vs H Q E h => ?_) (fun cdv A outer s0 H vs Q E hr h => ?_)
  · obtain ⟨M, p, m, ll, a, ev, b, la, as, fs, tags, Gs, Fs, Gk, F, ws, c, rfl, _⟩ := h
    rfl
  · obtain ⟨M, p, m, ll, a, ev, b, la, as, fs, tags, Gs, Fs, Gk, F, ws, c, rfl, bx, ok, st, lt, pp, T0, llM, pll, pla, lla, fo, fos, hfl, hK, hG, wo, c4, c90, hl, q⟩ := h
    refine ⟨_, (pss_cons (ps_set (i := 6) nd rfl (Or.inl rfl) (pe_call (ok__law_take X) (hr.mono (by decide)) rfl X.d__law_take.mg X.d__law_take.F.kp X.d__law_take.b .nil pass0 (pa_cons (pv 0) (pa_cons pe_int pa_nil)))) (pss_cons (ps_if (PW.pt (pw_or (pt_cmpR op_lt (pv 6) pe_int (nomark _)) (pw_or1 (PW.pt (pw_and (pt_cmpR (QB.op_eqDK K hr.units) (pv 5) (pe_lst pa_nil) (nomark _)) (pw_and1 (pt_cmpR op_lt (pv 6) pe_int (nomark _)))))))) (pss_cons (ps_set (i := 7) nd rfl (Or.inl rfl) (pe_call (ok__law_word X) (hr.mono (by decide)) rfl X.d__law_word.mg X.d__law_word.F.kp X.d__law_word.b .nil pass0 (pa_cons (pv 0) (pa_cons (pv 2) (pa_cons pe_int pa_nil))))) (pss_cons (ps_set (i := 8) nd rfl (Or.inl rfl) (pe_callTy (QB.call_listK K) (by rfl) X.n_list QB.bo_list (pa_cons (pv 7) pa_nil))) (pss_cons (ps_set (i := 9) nd rfl (Or.inl rfl) (pe_meth (pv 1) X.cl_Mailbox X.h_Mailbox_begin (ok_Mailbox_begin X) (hr.mono (by decide)) X.d_Mailbox_begin.b .nil pass0 (pa_cons (pv 8) pa_nil))) (pss_cons (ps_expr (QB.pe_bmK K PySem.F.plainAttrs_list PySem.F.slot_list_append PySem.F.type_list_append mt_append (pv 8) (pa_cons pe_str pa_nil))) (pss_cons (ps_expr (QB.pe_bmK K PySem.F.plainAttrs_list PySem.F.slot_list_append PySem.F.type_list_append mt_append (pv 5) (pa_cons (pv 7) pa_nil))) (pss_one (ps_ret (pe_cmpR op_eq (pv 9) (pe_op op_sub (pe_callB (QB.call_lenK K) (by rfl) X.n_len PySem.boot_len (pa_cons (pv 5) pa_nil)) pe_int) (nomark _))))))))) pss_nil) (pss_cons (ps_if (pt_cmpR op_eq (pv 6) pe_int (nomark _)) (pss_cons (ps_set (i := 10) nd rfl (Or.inl rfl) (pe_ix (QB.ix_listK K) (pe_lst (pa_cons pe_str (pa_cons pe_str pa_nil))) (pe_callTy call_int1 (by rfl) X.n_int QB.bo_int (pa_cons (pe_cmpR (QB.op_eqDK K hr.units) (pv 5) (pe_lst pa_nil) (nomark _)) pa_nil)) (fun _ _ => rfl))) (pss_cons (ps_if (pt_cmpR (QB.op_neDK K hr.units) (pv 5) (pe_lst pa_nil) (nomark _)) (pss_one (ps_expr (QB.pe_bm0K K PySem.F.plainAttrs_list PySem.F.slot_list_pop PySem.F.type_list_pop mt_pop (pv 5)))) pss_nil) (pss_one (ps_ret (pe_cmpR (QB.op_eqDK K hr.units) (pe_call (ok__law_undone X) (hr.mono (by decide)) rfl X.d__law_undone.mg X.d__law_undone.F.kp X.d__law_undone.b .nil pass0 (pa_cons (pv 1) pa_nil)) (pv 10) (nomark _)))))) pss_nil) (pss_cons (ps_par (i := 9) (j := 11) (by rfl) nd rfl rfl (by decide) rfl rfl (pa_cons (pe_call (ok__law_take X) (hr.mono (by decide)) rfl X.d__law_take.mg X.d__law_take.F.kp X.d__law_take.b .nil pass0 (pa_cons (pv 0) (pa_cons (pe_callB (QB.call_lenK K) (by rfl) X.n_len PySem.boot_len (pa_cons (pv 5) pa_nil)) pa_nil))) (pa_cons (pe_call (ok__law_take X) (hr.mono (by decide)) rfl X.d__law_take.mg X.d__law_take.F.kp X.d__law_take.b .nil pass0 (pa_cons (pv 0) (pa_cons (pe_callB (QB.call_lenK K) (by rfl) X.n_len PySem.boot_len (pa_cons (pv 3) pa_nil)) pa_nil))) pa_nil)) (by rfl)) (pss_cons (ps_set (i := 12) nd rfl (Or.inl rfl) (pe_call (ok__law_eaten X) (hr.mono (by decide)) rfl X.d__law_eaten.mg X.d__law_eaten.F.kp X.d__law_eaten.b .nil pass0 (pa_cons (pv 2) (pa_cons (pe_ix (QB.ix_listK K) (pv 3) (pv 11) (fun _ _ => rfl)) (pa_cons (pe_ix (QB.ix_listK K) (pv 5) (pv 9) (fun _ _ => rfl)) pa_nil))))) (pss_cons (ps_if (pt_cmpR op_eq (pv 6) pe_int (nomark _)) (pss_cons (ps_set (i := 10) nd rfl (Or.inl rfl) (pe_ix (QB.ix_listK K) (pe_lc (own := [("talk", 14)]) (g := gName 14) rfl nd (QB.pi_listK K (pe_call (ok__law_talks X) (hr.mono (by decide)) rfl X.d__law_talks.mg X.d__law_talks.F.kp X.d__law_talks.b .nil pass0 (pa_cons (pv 2) (pa_cons (pv 4) (pa_cons (pe_op op_cat (pv 5) (pe_lst (pa_cons (pv 12) pa_nil))) pa_nil))))) (blkOk_by (N := ["pile", "mailbox", "tags", "every", "key", "letters", "way", "subject", "handed", "number", "due", "program", "made_v", "found", "talk"]) (sc := defScope s__law_deed_right) (by decide +kernel)) (fun _ _ _ _ _ => pg_name (i := 14) nd rfl (Or.inl rfl)) (fun _ _ _ _ _ => pts_one (pt_cmpR (QB.op_inK K) (pe_callB (QB.call_lenK K) (by rfl) X.n_len PySem.boot_len (pa_cons (pv 5) pa_nil)) (pv 14) rfl)) (fun _ _ _ _ _ => (pv 14))) pe_int (fun _ _ => rfl))) (pss_cons (ps_set (i := 13) nd rfl (Or.inl rfl) (pe_meth (pv 1) X.cl_Mailbox X.h_Mailbox_tried (ok_Mailbox_tried X) (hr.mono (by decide)) X.d_Mailbox_tried.b .nil pass0 (pa_cons (pv 9) (pa_cons (pv 11) pa_nil)))) (pss_one (ps_ret (pe_and (pe_cmpR (QB.op_eqDK K hr.units) (pv 13) (pv 10) (nomark _)) (pe_one (pe_cmpR op_eq (pe_callB (QO.call_lenO (ok_Mailbox___len__ X) X.h_Mailbox___len__ (hr.mono (by decide)) X.d_Mailbox___len__.b pass0) (by rfl) X.n_len PySem.boot_len (pa_cons (pv 1) pa_nil)) (pe_callB (QB.call_lenK K) (by rfl) X.n_len PySem.boot_len (pa_cons (pv 5) pa_nil)) (nomark _)))))))) pss_nil) (pss_cons (ps_expr (QB.pe_bmK K PySem.F.plainAttrs_list PySem.F.slot_list_append PySem.F.type_list_append mt_append (pv 5) (pa_cons (pv 12) pa_nil))) (pss_one (ps_ret (pe_cmpR op_eq (pe_meth (pv 1) X.cl_Mailbox X.h_Mailbox_answer (ok_Mailbox_answer X) (hr.mono (by decide)) X.d_Mailbox_answer.b .nil pass0 (pa_cons (pv 9) (pa_cons (pv 11) pa_nil))) (pe_op op_sub (pe_callB (QB.call_lenK K) (by rfl) X.n_len PySem.boot_len (pa_cons (pv 5) pa_nil)) pe_int) (nomark _))))))))))), ?_⟩
    try dsimp only [Cx.nox, Cx.wish, cxOf]
    have hn1 : ∀ n ∈ [p], n ∈ M := fun n h => List.mem_singleton.mp h ▸ st.pM
    have hn2 : ∀ n ∈ [ll], n ∈ M := fun n h => List.mem_singleton.mp h ▸ llM
    have hn3 : ∀ n ∈ [la], n ∈ M := fun n h => List.mem_singleton.mp h ▸ lt.mem
    have to3 : ∀ {N : List Addr} {H1 H2 : Hp}, (∀ n ∈ N, n ∈ [p, ll, la]) → Exc N H1 H2 → Exc [p, ll, la] H1 H2 := fun h x => x.mono h
    have m1 : ∀ n ∈ [p], n ∈ [p, ll, la] := fun n h => List.mem_singleton.mp h ▸ List.mem_cons_self
    have m2 : ∀ n ∈ [ll], n ∈ [p, ll, la] := fun n h => List.mem_singleton.mp h ▸ List.mem_cons_of_mem _ List.mem_cons_self
    have m3 : ∀ n ∈ [la], n ∈ [p, ll, la] := fun n h => List.mem_singleton.mp h ▸ List.mem_cons_of_mem _ (List.mem_cons_of_mem _ List.mem_cons_self)
    have o1 : ll ∉ [p] := by simpa using pll.symm
    have o2 : la ∉ [p] := by simpa using pla.symm
    have o3 : p ∉ [ll] := by simpa using pll
    have o4 : la ∉ [ll] := by simpa using lla.symm
    have o5 : p ∉ [la] := by simpa using pla
    have o6 : ll ∉ [la] := by simpa using lla
    refine ⟨_, rfl, p, 6, rfl, by decide, by decide, pp, fun way H1 hw x1 p1 => ?_⟩
    have X1 : Exc [p, ll, la] H H1 := to3 m1 x1
    have bx := bx.exc hn1 x1 o1
    have st := st.exc hn1 x1
    have lt := lt.exc hn1 x1 o2
    have T1 := tr_exc T0 x1 p1
    clear x1 pp T0
    have hal := lt.len
    by_cases h2 : way < 2
    · refine ⟨_, rfl, _, _, rfl, rfl, _, rfl, ?_⟩
      rw [decide_eq_true (show ((way : Nat) : Int) < 2 by omega)]
      refine iteT ?_
      refine iteT ?_
      have X2 := X1
      have p2 := p1
      have T2 := T1
      clear X1 p1 T1
      generalize H1 = H2 at X2 p2 T2 bx st lt ⊢
      have hal := lt.len
      refine ⟨_, rfl, _, rfl, p, a, tags, 4, rfl, by decide, p2, Same.word hide_sub st.tg, ok.to, fun wd q3 H3 sub wl x3 p3 n3 w3 => ?_⟩
      have X3 := X2.trans (to3 m1 x3)
      have bx := bx.exc hn1 x3 o1
      have st := st.exc hn1 x3
      have lt := lt.exc hn1 x3 o2
      have T3 := tr_exc T2 x3 p3
      have q3M : q3 ∉ M := fun z => T2 q3 z n3
      clear x3 p2 T2
      refine ⟨_, rfl, _, _, rfl, .inl (SqL.of w3), fun d nd => ?_⟩
      have s4 : Same H3 (upd H3 d (.lst (vS wd))) := same_new nd
      have hd4 : (upd H3 d (.lst (vS wd))) d = some (.lst (vS wd)) := upd_same
      have bx4 : BoxAt X.c_Eater X.c_Mailbox (d :: M) (upd H3 d (.lst (vS wd))) m ll tags Gs Gk ws := bx.re (hide_grow nd) (s4 _ _) (List.mem_cons_of_mem _)
      have T4 : ∀ b ∈ d :: M, (upd H3 d (.lst (vS wd))) b ≠ none := fun b hb => by
        rcases List.mem_cons.mp hb with rfl | hb
        · rw [hd4]
          exact fun z => nomatch z
        · exact tr_same T3 s4 b hb
      have dl : ll ≠ d := fun z => T3 ll llM (z ▸ nd)
      generalize upd H3 d (.lst (vS wd)) = H4 at s4 hd4 bx4 T4 ⊢
      obtain ⟨dx, pl, ke, es, ts, bb⟩ := id bx4
      refine ⟨_, rfl, m, dx, _, rfl, hide_sub _ _ bb.obj, rfl, ?_⟩
      clear bb
      refine ⟨_, rfl, d :: M, m, ll, d, tags, Gs, Gk, ws, wd, rfl, bx4, ok, T4, hd4, sub, by omega, by omega, fun H5 b5 x5 n5 => ?_⟩
      have hd5 : H5 d = some (.lst (vS wd)) := x5 _ _ (by simpa using dl.symm) hd4
      refine ⟨_, rfl, .inl ⟨rfl, _, SqL.of hd5⟩, d, _, _, rfl, rfl, hd5, by rw [vS_len]; exact sz_lt (by omega), ?_⟩
      have b6 : BoxAt X.c_Eater X.c_Mailbox (d :: M) (upd H5 d (.lst (vS wd ++ [V.str "X"]))) m ll tags Gs Gk (ws ++ [wd]) := b5.move (hide_mut List.mem_cons_self) (upd_ne dl)
      have x6 : Exc [ll] H3 (upd H5 d (.lst (vS wd ++ [V.str "X"]))) := ((Exc.of s4).trans x5).mut (.inr nd)
      have n6 : (upd H5 d (.lst (vS wd ++ [V.str "X"]))) ll ≠ none := by
        rw [upd_ne dl]
        exact n5
      generalize upd H5 d (.lst (vS wd ++ [V.str "X"])) = H6 at b6 x6 n6 ⊢
      have b6 : BoxAt X.c_Eater X.c_Mailbox M H6 m ll tags Gs Gk (ws ++ [wd]) := b6.re hide_less (fun h => h) fun _ => llM
      have st := st.exc hn2 x6
      have lt := lt.exc hn2 x6 o4
      have p6 := p3.exc x6 o3
      have w6 : WordAt H6 q3 wd := x6 _ _ (fun z => q3M (hn2 _ z)) w3
      refine ⟨_, rfl, .inl ⟨rfl, _, SqL.of lt.lst⟩, _, rfl, la, _, _, rfl, rfl, lt.lst, by rw [List.length_map, hal]; exact sz_lt (by omega), ?_⟩
      have lt7 := lt.push w6 q3M
      refine ⟨_, rfl, _, rfl, _, _, rfl, .inl (SqL.of upd_same), _, _, rfl, rfl, rfl, ?_⟩
      have e : decide (V.int (ws.length : Int) = V.int ((((as.map V.ref ++ [V.ref q3]).length : Nat) : Int) - 1)) = true := by
        rw [List.length_append, List.length_map, hal]
        exact decide_eq_true (by congr 1; show _ = ((ws.length + 1 : Nat) : Int) - 1; omega)
      rw [e]
      refine q _ _ _ ((X3.trans (to3 m2 x6)).trans (to3 m3 exc_mut)) (p6.exc exc_mut o5) ?_ (b6.exc hn3 exc_mut o6) lt7 ((wo.mono (by omega)).snoc sub (by omega)) (by rw [List.length_append]; exact Nat.le_refl _)
      intro z
      exact n6 ((upd_ne lla).symm.trans z)
    · refine ⟨_, rfl, _, _, rfl, rfl, _, rfl, ?_⟩
      rw [decide_eq_false (show ¬ ((way : Nat) : Int) < 2 by omega)]
      refine iteF ?_
      refine ⟨_, rfl, by show 0 ≤ sizeLine; decide, fun e2 n2 => ?_⟩
      have s2 := same_new (o := .lst ([] : List V)) n2
      have he2 : (upd H1 e2 (.lst ([] : List V))) e2 = some (.lst []) := upd_same
      generalize upd H1 e2 (.lst ([] : List V)) = H2 at s2 he2 ⊢
      have bx := bx.same s2
      have st := st.exc hn1 (.of s2)
      have lt := lt.exc hn1 (.of s2) o2
      have X2 := X1.trans (.of s2)
      have p2 := p1.same s2
      have T2 := tr_same T1 s2
      clear X1 p1 T1 s2
      refine eq_enc enc_word.list (by decide) lt.dp (x := ws) (y := []) (.lst (SqL.of he2) .nil) (wo.ok ok.to) (fun _ h => nomatch h) ?_
      clear he2
      by_cases he : ws = []
      · rw [decide_eq_true he]
        refine ⟨_, rfl, iteT ?_⟩
        refine ⟨_, rfl, _, _, rfl, rfl, _, rfl, ?_⟩
        by_cases h5 : way < 5
        · rw [decide_eq_true (show ((way : Nat) : Int) < 5 by omega)]
          refine iteT ?_
          have hal := lt.len
          refine ⟨_, rfl, _, rfl, p, a, tags, 4, rfl, by decide, p2, Same.word hide_sub st.tg, ok.to, fun wd q3 H3 sub wl x3 p3 n3 w3 => ?_⟩
          have X3 := X2.trans (to3 m1 x3)
          have bx := bx.exc hn1 x3 o1
          have st := st.exc hn1 x3
          have lt := lt.exc hn1 x3 o2
          have T3 := tr_exc T2 x3 p3
          have q3M : q3 ∉ M := fun z => T2 q3 z n3
          clear x3 p2 T2
          refine ⟨_, rfl, _, _, rfl, .inl (SqL.of w3), fun d nd => ?_⟩
          have s4 : Same H3 (upd H3 d (.lst (vS wd))) := same_new nd
          have hd4 : (upd H3 d (.lst (vS wd))) d = some (.lst (vS wd)) := upd_same
          have bx4 : BoxAt X.c_Eater X.c_Mailbox (d :: M) (upd H3 d (.lst (vS wd))) m ll tags Gs Gk ws := bx.re (hide_grow nd) (s4 _ _) (List.mem_cons_of_mem _)
          have T4 : ∀ b ∈ d :: M, (upd H3 d (.lst (vS wd))) b ≠ none := fun b hb => by
            rcases List.mem_cons.mp hb with rfl | hb
            · rw [hd4]
              exact fun z => nomatch z
            · exact tr_same T3 s4 b hb
          have dl : ll ≠ d := fun z => T3 ll llM (z ▸ nd)
          generalize upd H3 d (.lst (vS wd)) = H4 at s4 hd4 bx4 T4 ⊢
          obtain ⟨dx, pl, ke, es, ts, bb⟩ := id bx4
          refine ⟨_, rfl, m, dx, _, rfl, hide_sub _ _ bb.obj, rfl, ?_⟩
          clear bb
          refine ⟨_, rfl, d :: M, m, ll, d, tags, Gs, Gk, ws, wd, rfl, bx4, ok, T4, hd4, sub, by omega, by omega, fun H5 b5 x5 n5 => ?_⟩
          have hd5 : H5 d = some (.lst (vS wd)) := x5 _ _ (by simpa using dl.symm) hd4
          refine ⟨_, rfl, .inl ⟨rfl, _, SqL.of hd5⟩, d, _, _, rfl, rfl, hd5, by rw [vS_len]; exact sz_lt (by omega), ?_⟩
          have b6 : BoxAt X.c_Eater X.c_Mailbox (d :: M) (upd H5 d (.lst (vS wd ++ [V.str "X"]))) m ll tags Gs Gk (ws ++ [wd]) := b5.move (hide_mut List.mem_cons_self) (upd_ne dl)
          have x6 : Exc [ll] H3 (upd H5 d (.lst (vS wd ++ [V.str "X"]))) := ((Exc.of s4).trans x5).mut (.inr nd)
          have n6 : (upd H5 d (.lst (vS wd ++ [V.str "X"]))) ll ≠ none := by
            rw [upd_ne dl]
            exact n5
          generalize upd H5 d (.lst (vS wd ++ [V.str "X"])) = H6 at b6 x6 n6 ⊢
          have b6 : BoxAt X.c_Eater X.c_Mailbox M H6 m ll tags Gs Gk (ws ++ [wd]) := b6.re hide_less (fun h => h) fun _ => llM
          have st := st.exc hn2 x6
          have lt := lt.exc hn2 x6 o4
          have p6 := p3.exc x6 o3
          have w6 : WordAt H6 q3 wd := x6 _ _ (fun z => q3M (hn2 _ z)) w3
          refine ⟨_, rfl, .inl ⟨rfl, _, SqL.of lt.lst⟩, _, rfl, la, _, _, rfl, rfl, lt.lst, by rw [List.length_map, hal]; exact sz_lt (by omega), ?_⟩
          have lt7 := lt.push w6 q3M
          refine ⟨_, rfl, _, rfl, _, _, rfl, .inl (SqL.of upd_same), _, _, rfl, rfl, rfl, ?_⟩
          have e : decide (V.int (ws.length : Int) = V.int ((((as.map V.ref ++ [V.ref q3]).length : Nat) : Int) - 1)) = true := by
            rw [List.length_append, List.length_map, hal]
            exact decide_eq_true (by congr 1; show _ = ((ws.length + 1 : Nat) : Int) - 1; omega)
          rw [e]
          refine q _ _ _ ((X3.trans (to3 m2 x6)).trans (to3 m3 exc_mut)) (p6.exc exc_mut o5) ?_ (b6.exc hn3 exc_mut o6) lt7 ((wo.mono (by omega)).snoc sub (by omega)) (by rw [List.length_append]; exact Nat.le_refl _)
          intro z
          exact n6 ((upd_ne lla).symm.trans z)
        · rw [decide_eq_false (show ¬ ((way : Nat) : Int) < 5 by omega)]
          refine iteF ?_
          have hne : ¬ (ws = [] ∧ way < 5) := fun z => h5 z.2
          have hal := lt.len
          by_cases h5 : way = 5
          · subst h5
            refine ⟨_, rfl, rfl, _, rfl, ?_⟩
            rw [decide_eq_true (show V.int ((5 : Nat) : Int) = V.int 5 from rfl)]
            refine iteT ?_
            refine ⟨by show 2 ≤ sizeLine; decide, fun p3 n3 => ?_⟩
            have s3 := same_new (o := .lst [V.str "undone", V.str "none"]) n3
            have hp3 : (upd H2 p3 (.lst [V.str "undone", V.str "none"])) p3 = some (.lst [V.str "undone", V.str "none"]) := upd_same
            generalize upd H2 p3 (.lst [V.str "undone", V.str "none"]) = H3 at s3 hp3 ⊢
            have lt3 := lt.exc hn1 (.of s3) o2
            refine ⟨_, rfl, by show 0 ≤ sizeLine; decide, fun e4 n4 => ?_⟩
            have s4 := same_new (o := .lst ([] : List V)) n4
            have he4 : (upd H3 e4 (.lst ([] : List V))) e4 = some (.lst []) := upd_same
            generalize upd H3 e4 (.lst ([] : List V)) = H4 at s4 he4 ⊢
            have lt4 := lt3.exc hn1 (.of s4) o2
            refine eq_enc enc_word.list (by decide) lt4.dp (x := ws) (y := []) (.lst (SqL.of he4) .nil) (wo.ok ok.to) (fun _ h => nomatch h) ?_
            refine .inr ⟨_, rfl, ?_⟩
            refine ⟨p3, _, _, V.str (if ws = [] then "none" else "undone"), rfl, rfl, SqL.of (s4 _ _ hp3), by by_cases e : ws = [] <;> simp [e] <;> rfl, ?_⟩
            refine ⟨_, rfl, by show 0 ≤ sizeLine; decide, fun e5 n5 => ?_⟩
            have s5 := same_new (o := .lst ([] : List V)) n5
            have he5 : (upd H4 e5 (.lst ([] : List V))) e5 = some (.lst []) := upd_same
            generalize upd H4 e5 (.lst ([] : List V)) = H5 at s5 he5 ⊢
            have lt5 := lt4.exc hn1 (.of s5) o2
            refine ne_enc enc_word.list (by decide) lt5.dp (x := ws) (y := []) (.lst (SqL.of he5) .nil) (wo.ok ok.to) (fun _ h => nomatch h) ?_
            have s25 := (s3.trans s4).trans s5
            have bx5 := bx.same s25
            have p5 := p2.same s25
            have T5 := tr_same T2 s25
            have X5 := X2.trans (.of s25)
            by_cases e : ws = []
            · refine ⟨_, rfl, ?_⟩
              rw [decide_eq_true e]
              refine iteF ?_
              obtain ⟨dx, pl, ke, es, ts, bb⟩ := id bx5
              refine ⟨_, rfl, ?_⟩
              try dsimp only [tNil]
              refine ⟨M, m, ll, tags, Gs, Gk, ws, rfl, bx5, fun _ H6 s6 => ?_, fun h => absurd e h⟩
              refine ⟨_, rfl, ?_⟩
              rw [if_pos e]
              refine eq_enc enc_str (by decide) (.str "none") (.str "none") (by decide +kernel) (by decide +kernel) ?_
              rw [decide_eq_true rfl]
              exact q H6 ws as (X5.trans (.of s6)) (p5.same s6) (tr_same T5 s6 ll llM) (bx5.same s6) (lt5.exc hn1 (.of s6) o2) (wo.mono (by omega)) (by omega)
            · refine ⟨_, rfl, ?_⟩
              rw [decide_eq_false e]
              refine iteT ?_
              have hp : 0 < as.length := by
                rw [hal]
                exact List.length_pos_iff.mpr e
              refine ⟨_, rfl, .inl ⟨rfl, _, SqL.of lt5.lst⟩, la, _, V.ref (as[as.length - 1]'(by omega)), rfl, rfl, lt5.lst, by rw [List.length_map, List.getElem?_map, List.getElem?_eq_getElem (by omega)]; rfl, ?_⟩
              have lt6 := lt5.pop
              have x6 : Exc [la] H5 (upd H5 la (.lst (as.map V.ref).dropLast)) := exc_mut
              have bx6 := bx5.exc hn3 x6 o6
              have p6 := p5.exc x6 o5
              have X6 := X5.trans (to3 m3 x6)
              generalize upd H5 la (.lst (as.map V.ref).dropLast) = H6 at lt6 x6 bx6 p6 X6 ⊢
              refine ⟨_, rfl, ?_⟩
              try dsimp only [tNil]
              refine ⟨M, m, ll, tags, Gs, Gk, ws, rfl, bx6, fun h => absurd h e, fun _ H7 b7 x7 n7 => ?_⟩
              refine ⟨_, rfl, ?_⟩
              rw [if_neg e]
              refine eq_enc enc_str (by decide) (.str "undone") (.str "undone") (by decide +kernel) (by decide +kernel) ?_
              rw [decide_eq_true rfl]
              exact q H7 ws.dropLast as.dropLast (X6.trans (to3 m2 x7)) (p6.exc x7 o3) n7 b7 (lt6.exc hn2 x7 o4) (wo.drop.mono (by omega)) (by rw [List.length_dropLast]; omega)
          refine ⟨_, rfl, rfl, _, rfl, ?_⟩
          rw [decide_eq_false (show ¬ V.int ((way : Nat) : Int) = V.int 5 from fun z => h5 (by have := V.int.inj z; omega))]
          refine iteF ?_
          have hws : ws ≠ [] := fun z => hne ⟨z, by omega⟩
          have hwl : 0 < ws.length := List.length_pos_iff.mpr hws
          refine ⟨_, rfl, _, rfl, _, _, rfl, .inl (SqL.of lt.lst), ?_⟩
          refine ⟨p, ws.length, by rw [List.length_map, hal]; rfl, hwl, by omega, p2, fun i H3 hi x3 p3 => ?_⟩
          have X3 := X2.trans (to3 m1 x3)
          have bx := bx.exc hn1 x3 o1
          have st := st.exc hn1 x3
          have lt := lt.exc hn1 x3 o2
          have T3 := tr_exc T2 x3 p3
          clear x3 p2 T2
          have hev := hide_sub _ _ st.ev
          have hfs : fs.length = Gs.length := (Paired.length st.evs).trans hfl
          refine ⟨_, rfl, _, rfl, _, _, rfl, .inl (SqL.of hev), ?_⟩
          refine ⟨p, Gs.length, by rw [List.length_map, hfs]; rfl, ok.pos, by have := ok.few; omega, p3, fun j H4 hj x4 p4 => ?_⟩
          have X4 := X3.trans (to3 m1 x4)
          have bx := bx.exc hn1 x4 o1
          have st := st.exc hn1 x4
          have lt := lt.exc hn1 x4 o2
          have T4 := tr_exc T3 x4 p4
          clear x4 p3 T3 hev
          refine ⟨_, _, rfl, ?_⟩
          have hev := hide_sub _ _ st.ev
          have hjF : j < Fs.length := by omega
          obtain ⟨f, hf1, hf2⟩ := paired_get st.evs (List.getElem?_eq_getElem hjF)
          obtain ⟨c1, hc1, hc2⟩ := lt.get hi
          have foj := fos _ (List.getElem_mem hjF)
          have wi := wo.get hi
          refine ⟨_, rfl, _, rfl, _, rfl, ev, _, _, _, rfl, rfl, SqL.of hev, atI_nat (by rw [List.getElem?_map, hf1]; rfl), ?_⟩
          refine ⟨_, rfl, _, rfl, la, _, _, _, rfl, rfl, SqL.of lt.lst, atI_nat (by rw [List.getElem?_map, hc1]; rfl), ?_⟩
          refine ⟨a, f, c1, tags, Fs[j], ws[i], rfl, Same.word hide_sub st.tg, Same.form hide_sub hf2, hc2, foj.good, wi.1, by omega, fun s hs => by have := foj.len s hs; omega, fun p5 H5 s5 n5 w5 => ?_⟩
          have eG : ansOf tags Gs ws i j = make tags Fs[j] (ws[i]) := by
            unfold ansOf
            rw [show ws.getD i [] = ws[i] from by rw [List.getD_eq_getElem?_getD, List.getElem?_eq_getElem hi]; rfl, hG j hj _ wi.1, show Fs.getD j [] = Fs[j] from by rw [List.getD_eq_getElem?_getD, List.getElem?_eq_getElem hjF]; rfl]
          have w5 : WordAt H5 p5 (ansOf tags Gs ws i j) := by
            rw [eG]
            exact w5
          have wo100 : WsOk tags 100 ws := wo.mono (by omega)
          have a1 := ans_ok ok wo100 hi hj
          have aL : (ansOf tags Gs ws i j).length ≤ c + 2 := by omega
          have bx5 := bx.same s5
          have st5 := st.exc hn1 (.of s5)
          have lt5 := lt.exc hn1 (.of s5) o2
          have p6 := p4.same s5
          have T5 := tr_same T4 s5
          have X5 := X4.trans (.of s5)
          have p5M : p5 ∉ M := fun z => T4 p5 z n5
          clear bx st lt p4 T4 X4 X3 X2 hev hf2
          by_cases h4 : way = 4
          · subst h4
            refine ⟨_, rfl, rfl, _, rfl, ?_⟩
            rw [decide_eq_true (show V.int ((4 : Nat) : Int) = V.int 4 from rfl)]
            refine iteT ?_
            obtain ⟨mv, hmv⟩ : ∃ mv, mv = ansOf tags Gs ws i j := ⟨_, rfl⟩
            rw [← hmv] at w5 a1 aL
            refine ⟨_, rfl, _, rfl, _, rfl, _, rfl, by show 1 ≤ sizeLine; decide, fun p7 n7 => ?_⟩
            have s7 := same_new (o := .lst [V.ref p5]) n7
            have hp7 : (upd H5 p7 (.lst [V.ref p5])) p7 = some (.lst [V.ref p5]) := upd_same
            generalize upd H5 p7 (.lst [V.ref p5]) = H7 at s7 hp7 ⊢
            have lt7 := lt5.exc hn1 (.of s7) o2
            refine ⟨_, _, _, _, rfl, rfl, lt7.lst, hp7, by rw [List.length_map, hal]; exact sz_le (by show _ + 1 ≤ _; omega), fun p8 n8 => ?_⟩
            have s8 := same_new (o := .lst (as.map V.ref ++ [V.ref p5])) n8
            have hp8 : (upd H7 p8 (.lst (as.map V.ref ++ [V.ref p5]))) p8 = some (.lst ((as ++ [p5]).map V.ref)) := by
              rw [upd_same, List.map_append]
              rfl
            generalize upd H7 p8 (.lst (as.map V.ref ++ [V.ref p5])) = H8 at s8 hp8 ⊢
            have s58 := s7.trans s8
            have lt8 := lt5.exc hn1 (.of s58) o2
            have st8 := st5.exc hn1 (.of s58)
            have bx8 := bx5.same s58
            have wo' : WsOk tags 1000 (ws ++ [mv]) := ((wo.mono (show c ≤ 1000 by omega))).snoc a1.1 (by omega)
            have lw : (ws ++ [mv]).length = ws.length + 1 := List.length_append
            refine ⟨a, b, p8, as ++ [p5], tags, F, ws ++ [mv], rfl, Same.word hide_sub st8.tg, Same.form hide_sub st8.key, hp8, Paired.snoc (L2.Paired.mapP lt8.all fun _ _ z => Same.word hide_sub z) (Same.word s58 w5), ok.to, fo, wo', by rw [lw]; omega, fun r H9 s9 t9 => ?_⟩
            rw [lw] at t9
            obtain ⟨kk, hkk⟩ : ∃ kk, kk = boxKeys tags F (ws ++ [mv]) := ⟨_, rfl⟩
            rw [← hkk] at t9
            obtain ⟨r0, A, hr9, gA⟩ := t9
            have ekk : kk = boxKeys tags F ws ++ [make tags F mv] := by
              rw [hkk]
              unfold boxKeys
              rw [List.map_append]
              rfl
            have kl : (boxKeys tags F ws).length = ws.length := List.length_map _
            have hkw : kk.getD ws.length [] = make tags F mv := by
              rw [ekk, List.getD_eq_getElem?_getD, List.getElem?_append_right (by omega), kl, Nat.sub_self]
              rfl
            have hwk : withKey kk (ws.length + 1) (make tags F mv) = withKey (boxKeys tags F ws) ws.length (make tags F mv) ++ [ws.length] := by
              have h := withKey_new (ks := boxKeys tags F ws) (w := make tags F mv)
              rw [kl] at h
              rw [ekk]
              exact h
            have s59 := s58.trans s9
            have lt9 := lt5.exc hn1 (.of s59) o2
            refine ⟨r, rfl, ⟨_, SqL.of hr9⟩, fun D nD => ?_⟩
            refine lc_filter (walk_list (K := K) (a := r) (xs := (seenTo kk (ws.length + 1)).map fun k => V.ref (A k))) nD (by rw [List.length_map]; have := seenTo_len kk (ws.length + 1); omega) (fun H' s' => SqL.of (s' _ _ hr9)) (fun n => V.ref (A ((seenTo kk (ws.length + 1)).getD n []))) (fun n => decide (ws.length ∈ withKey kk (ws.length + 1) ((seenTo kk (ws.length + 1)).getD n []))) ?_ ?_
            · rintro n x Ha Hb k N hn sa ⟨rfl, hx⟩ y1 y2
              rw [List.length_map] at hn
              have hx : ((seenTo kk (ws.length + 1)).map fun k => V.ref (A k))[n]? = some x := hx
              have eg : (seenTo kk (ws.length + 1)).getD n [] = (seenTo kk (ws.length + 1))[n] := by
                rw [List.getD_eq_getElem?_getD, List.getElem?_eq_getElem hn]
                rfl
              rw [eg] at y1 y2
              rw [List.getElem?_map, List.getElem?_eq_getElem hn] at hx
              cases hx
              have hm : (seenTo kk (ws.length + 1))[n] ∈ seenTo kk (ws.length + 1) := List.getElem_mem hn
              generalize (seenTo kk (ws.length + 1))[n] = u at hm y1 y2 ⊢
              refine ⟨rfl, _, rfl, _, _, rfl, .inl (SqL.of (sa _ _ lt9.lst)), ?_⟩
              refine ⟨_, rfl, A u, _, rfl, .inl (SqL.of (sa _ _ (gA.at_ u hm))), rfl, vN_flat _, ?_⟩
              rw [List.length_map, hal, inV_nats]
              by_cases e : ws.length ∈ withKey kk (ws.length + 1) u
              · rw [decide_eq_true e]
                exact ⟨_, rfl, iteT ⟨_, rfl, y1 (decide_eq_true e) _ (Same.refl _)⟩⟩
              · rw [decide_eq_false e]
                exact ⟨_, rfl, iteF (y2 (decide_eq_false e) _ (Same.refl _))⟩
            · intro Ha sa ha'
              rw [List.length_map] at ha'
              rw [filter_refs (A := A) (i := ws.length) (kk := kk) (n := ws.length + 1) (by omega), hkw] at ha'
              refine ⟨D, _, 0, _, rfl, rfl, SqL.of ha', rfl, ?_⟩
              have s5a := s59.trans sa
              have hmk : make tags F mv ∈ seenTo kk (ws.length + 1) := hkw ▸ mem_seenTo (by omega)
              have ht := sa _ _ (gA.at_ _ hmk)
              have bxa := bx5.same s5a
              obtain ⟨dx, pl, ke, es, ts, bb⟩ := id bxa
              refine ⟨_, rfl, m, dx, _, rfl, hide_sub _ _ bb.obj, rfl, ?_⟩
              clear bb
              refine ⟨_, rfl, _, rfl, M, m, ll, tags, Gs, Gk, ws, i, j, rfl, bxa, ok, wo100, tr_same T5 s5a, hi, hj, by omega, fun pf Hf sf nf hf => ?_⟩
              rw [← hmv, boxKeys_eq hK wo, hK mv a1.1, ← hwk] at hf
              refine ⟨_, rfl, _, rfl, eq_enc enc_nats (by decide) (dp_nats hf) (dp_nats (sf _ _ ht)) (fun _ _ => trivial) (fun _ _ => trivial) ?_⟩
              rw [decide_eq_true rfl]
              have s5f := s5a.trans sf
              have bxf := bx5.same s5f
              have ltf := lt5.exc hn1 (.of s5f) o2
              refine ⟨_, rfl, ?_⟩
              refine iteT ?_
              obtain ⟨dx, pl, ke, es, ts, bb⟩ := id bxf
              refine ⟨_, rfl, m, dx, _, rfl, hide_sub _ _ bb.obj, M, m, ll, tags, Gs, Gk, ws, rfl, bxf, ws.length, rfl, Nat.lt_of_le_of_lt hl (by decide), ?_⟩
              refine ⟨_, rfl, _, _, rfl, .inl (SqL.of ltf.lst), rfl, ?_⟩
              rw [List.length_map, hal, decide_eq_true rfl]
              exact q Hf ws as (X5.trans (.of s5f)) (p6.same s5f) (tr_same T5 s5f ll llM) bxf ltf (wo.mono (by omega)) (by omega)
          · refine ⟨_, rfl, rfl, _, rfl, ?_⟩
            rw [decide_eq_false (show ¬ V.int ((way : Nat) : Int) = V.int 4 from fun z => h4 (by have := V.int.inj z; omega))]
            refine iteF ?_
            refine ⟨_, rfl, .inl ⟨rfl, _, SqL.of lt5.lst⟩, _, rfl, la, _, _, rfl, rfl, lt5.lst, by rw [List.length_map, hal]; exact sz_lt (by omega), ?_⟩
            have lt7 := lt5.push w5 p5M
            have x7 : Exc [la] H5 (upd H5 la (.lst (as.map V.ref ++ [V.ref p5]))) := exc_mut
            have bx7 := bx5.exc hn3 x7 o6
            have p7 := p6.exc x7 o5
            have T7 : ∀ b ∈ M, (upd H5 la (.lst (as.map V.ref ++ [V.ref p5]))) b ≠ none := trN T5 x7 fun b hb => by
              rw [List.mem_singleton.mp hb, upd_same]
              exact fun z => nomatch z
            have X7 := X5.trans (to3 m3 x7)
            generalize upd H5 la (.lst (as.map V.ref ++ [V.ref p5])) = H7 at lt7 x7 bx7 p7 T7 X7 ⊢
            obtain ⟨dx, pl, ke, es, ts, bb⟩ := id bx7
            refine ⟨_, rfl, m, dx, _, rfl, hide_sub _ _ bb.obj, rfl, ?_⟩
            clear bb
            refine ⟨_, rfl, _, rfl, M, m, ll, tags, Gs, Gk, ws, i, j, rfl, bx7, ok, wo100, T7, hi, hj, by omega, fun H8 b8 x8 n8 => ?_⟩
            have lt8 := lt7.exc hn2 x8 o4
            refine ⟨_, rfl, _, _, rfl, .inl (SqL.of lt8.lst), _, _, rfl, rfl, rfl, ?_⟩
            have e : decide (V.int (ws.length : Int) = V.int (((((as ++ [p5]).map V.ref).length : Nat) : Int) - 1)) = true := by
              rw [List.length_map, List.length_append, hal]
              exact decide_eq_true (by congr 1; show _ = ((ws.length + 1 : Nat) : Int) - 1; omega)
            rw [e]
            exact q H8 _ _ (X7.trans (to3 m2 x8)) (p7.exc x8 o3) n8 b8 lt8 ((wo.mono (by omega)).snoc a1.1 aL) (by rw [List.length_append]; exact Nat.le_refl _)
      · rw [decide_eq_false he]
        refine ⟨_, rfl, iteF ?_⟩
        refine iteF ?_
        have hne : ¬ (ws = [] ∧ way < 5) := fun z => he z.1
        have hal := lt.len
        by_cases h5 : way = 5
        · subst h5
          refine ⟨_, rfl, rfl, _, rfl, ?_⟩
          rw [decide_eq_true (show V.int ((5 : Nat) : Int) = V.int 5 from rfl)]
          refine iteT ?_
          refine ⟨by show 2 ≤ sizeLine; decide, fun p3 n3 => ?_⟩
          have s3 := same_new (o := .lst [V.str "undone", V.str "none"]) n3
          have hp3 : (upd H2 p3 (.lst [V.str "undone", V.str "none"])) p3 = some (.lst [V.str "undone", V.str "none"]) := upd_same
          generalize upd H2 p3 (.lst [V.str "undone", V.str "none"]) = H3 at s3 hp3 ⊢
          have lt3 := lt.exc hn1 (.of s3) o2
          refine ⟨_, rfl, by show 0 ≤ sizeLine; decide, fun e4 n4 => ?_⟩
          have s4 := same_new (o := .lst ([] : List V)) n4
          have he4 : (upd H3 e4 (.lst ([] : List V))) e4 = some (.lst []) := upd_same
          generalize upd H3 e4 (.lst ([] : List V)) = H4 at s4 he4 ⊢
          have lt4 := lt3.exc hn1 (.of s4) o2
          refine eq_enc enc_word.list (by decide) lt4.dp (x := ws) (y := []) (.lst (SqL.of he4) .nil) (wo.ok ok.to) (fun _ h => nomatch h) ?_
          refine .inr ⟨_, rfl, ?_⟩
          refine ⟨p3, _, _, V.str (if ws = [] then "none" else "undone"), rfl, rfl, SqL.of (s4 _ _ hp3), by by_cases e : ws = [] <;> simp [e] <;> rfl, ?_⟩
          refine ⟨_, rfl, by show 0 ≤ sizeLine; decide, fun e5 n5 => ?_⟩
          have s5 := same_new (o := .lst ([] : List V)) n5
          have he5 : (upd H4 e5 (.lst ([] : List V))) e5 = some (.lst []) := upd_same
          generalize upd H4 e5 (.lst ([] : List V)) = H5 at s5 he5 ⊢
          have lt5 := lt4.exc hn1 (.of s5) o2
          refine ne_enc enc_word.list (by decide) lt5.dp (x := ws) (y := []) (.lst (SqL.of he5) .nil) (wo.ok ok.to) (fun _ h => nomatch h) ?_
          have s25 := (s3.trans s4).trans s5
          have bx5 := bx.same s25
          have p5 := p2.same s25
          have T5 := tr_same T2 s25
          have X5 := X2.trans (.of s25)
          by_cases e : ws = []
          · refine ⟨_, rfl, ?_⟩
            rw [decide_eq_true e]
            refine iteF ?_
            obtain ⟨dx, pl, ke, es, ts, bb⟩ := id bx5
            refine ⟨_, rfl, ?_⟩
            try dsimp only [tNil]
            refine ⟨M, m, ll, tags, Gs, Gk, ws, rfl, bx5, fun _ H6 s6 => ?_, fun h => absurd e h⟩
            refine ⟨_, rfl, ?_⟩
            rw [if_pos e]
            refine eq_enc enc_str (by decide) (.str "none") (.str "none") (by decide +kernel) (by decide +kernel) ?_
            rw [decide_eq_true rfl]
            exact q H6 ws as (X5.trans (.of s6)) (p5.same s6) (tr_same T5 s6 ll llM) (bx5.same s6) (lt5.exc hn1 (.of s6) o2) (wo.mono (by omega)) (by omega)
          · refine ⟨_, rfl, ?_⟩
            rw [decide_eq_false e]
            refine iteT ?_
            have hp : 0 < as.length := by
              rw [hal]
              exact List.length_pos_iff.mpr e
            refine ⟨_, rfl, .inl ⟨rfl, _, SqL.of lt5.lst⟩, la, _, V.ref (as[as.length - 1]'(by omega)), rfl, rfl, lt5.lst, by rw [List.length_map, List.getElem?_map, List.getElem?_eq_getElem (by omega)]; rfl, ?_⟩
            have lt6 := lt5.pop
            have x6 : Exc [la] H5 (upd H5 la (.lst (as.map V.ref).dropLast)) := exc_mut
            have bx6 := bx5.exc hn3 x6 o6
            have p6 := p5.exc x6 o5
            have X6 := X5.trans (to3 m3 x6)
            generalize upd H5 la (.lst (as.map V.ref).dropLast) = H6 at lt6 x6 bx6 p6 X6 ⊢
            refine ⟨_, rfl, ?_⟩
            try dsimp only [tNil]
            refine ⟨M, m, ll, tags, Gs, Gk, ws, rfl, bx6, fun h => absurd h e, fun _ H7 b7 x7 n7 => ?_⟩
            refine ⟨_, rfl, ?_⟩
            rw [if_neg e]
            refine eq_enc enc_str (by decide) (.str "undone") (.str "undone") (by decide +kernel) (by decide +kernel) ?_
            rw [decide_eq_true rfl]
            exact q H7 ws.dropLast as.dropLast (X6.trans (to3 m2 x7)) (p6.exc x7 o3) n7 b7 (lt6.exc hn2 x7 o4) (wo.drop.mono (by omega)) (by rw [List.length_dropLast]; omega)
        refine ⟨_, rfl, rfl, _, rfl, ?_⟩
        rw [decide_eq_false (show ¬ V.int ((way : Nat) : Int) = V.int 5 from fun z => h5 (by have := V.int.inj z; omega))]
        refine iteF ?_
        have hws : ws ≠ [] := fun z => hne ⟨z, by omega⟩
        have hwl : 0 < ws.length := List.length_pos_iff.mpr hws
        refine ⟨_, rfl, _, rfl, _, _, rfl, .inl (SqL.of lt.lst), ?_⟩
        refine ⟨p, ws.length, by rw [List.length_map, hal]; rfl, hwl, by omega, p2, fun i H3 hi x3 p3 => ?_⟩
        have X3 := X2.trans (to3 m1 x3)
        have bx := bx.exc hn1 x3 o1
        have st := st.exc hn1 x3
        have lt := lt.exc hn1 x3 o2
        have T3 := tr_exc T2 x3 p3
        clear x3 p2 T2
        have hev := hide_sub _ _ st.ev
        have hfs : fs.length = Gs.length := (Paired.length st.evs).trans hfl
        refine ⟨_, rfl, _, rfl, _, _, rfl, .inl (SqL.of hev), ?_⟩
        refine ⟨p, Gs.length, by rw [List.length_map, hfs]; rfl, ok.pos, by have := ok.few; omega, p3, fun j H4 hj x4 p4 => ?_⟩
        have X4 := X3.trans (to3 m1 x4)
        have bx := bx.exc hn1 x4 o1
        have st := st.exc hn1 x4
        have lt := lt.exc hn1 x4 o2
        have T4 := tr_exc T3 x4 p4
        clear x4 p3 T3 hev
        refine ⟨_, _, rfl, ?_⟩
        have hev := hide_sub _ _ st.ev
        have hjF : j < Fs.length := by omega
        obtain ⟨f, hf1, hf2⟩ := paired_get st.evs (List.getElem?_eq_getElem hjF)
        obtain ⟨c1, hc1, hc2⟩ := lt.get hi
        have foj := fos _ (List.getElem_mem hjF)
        have wi := wo.get hi
        refine ⟨_, rfl, _, rfl, _, rfl, ev, _, _, _, rfl, rfl, SqL.of hev, atI_nat (by rw [List.getElem?_map, hf1]; rfl), ?_⟩
        refine ⟨_, rfl, _, rfl, la, _, _, _, rfl, rfl, SqL.of lt.lst, atI_nat (by rw [List.getElem?_map, hc1]; rfl), ?_⟩
        refine ⟨a, f, c1, tags, Fs[j], ws[i], rfl, Same.word hide_sub st.tg, Same.form hide_sub hf2, hc2, foj.good, wi.1, by omega, fun s hs => by have := foj.len s hs; omega, fun p5 H5 s5 n5 w5 => ?_⟩
        have eG : ansOf tags Gs ws i j = make tags Fs[j] (ws[i]) := by
          unfold ansOf
          rw [show ws.getD i [] = ws[i] from by rw [List.getD_eq_getElem?_getD, List.getElem?_eq_getElem hi]; rfl, hG j hj _ wi.1, show Fs.getD j [] = Fs[j] from by rw [List.getD_eq_getElem?_getD, List.getElem?_eq_getElem hjF]; rfl]
        have w5 : WordAt H5 p5 (ansOf tags Gs ws i j) := by
          rw [eG]
          exact w5
        have wo100 : WsOk tags 100 ws := wo.mono (by omega)
        have a1 := ans_ok ok wo100 hi hj
        have aL : (ansOf tags Gs ws i j).length ≤ c + 2 := by omega
        have bx5 := bx.same s5
        have st5 := st.exc hn1 (.of s5)
        have lt5 := lt.exc hn1 (.of s5) o2
        have p6 := p4.same s5
        have T5 := tr_same T4 s5
        have X5 := X4.trans (.of s5)
        have p5M : p5 ∉ M := fun z => T4 p5 z n5
        clear bx st lt p4 T4 X4 X3 X2 hev hf2
        by_cases h4 : way = 4
        · subst h4
          refine ⟨_, rfl, rfl, _, rfl, ?_⟩
          rw [decide_eq_true (show V.int ((4 : Nat) : Int) = V.int 4 from rfl)]
          refine iteT ?_
          obtain ⟨mv, hmv⟩ : ∃ mv, mv = ansOf tags Gs ws i j := ⟨_, rfl⟩
          rw [← hmv] at w5 a1 aL
          refine ⟨_, rfl, _, rfl, _, rfl, _, rfl, by show 1 ≤ sizeLine; decide, fun p7 n7 => ?_⟩
          have s7 := same_new (o := .lst [V.ref p5]) n7
          have hp7 : (upd H5 p7 (.lst [V.ref p5])) p7 = some (.lst [V.ref p5]) := upd_same
          generalize upd H5 p7 (.lst [V.ref p5]) = H7 at s7 hp7 ⊢
          have lt7 := lt5.exc hn1 (.of s7) o2
          refine ⟨_, _, _, _, rfl, rfl, lt7.lst, hp7, by rw [List.length_map, hal]; exact sz_le (by show _ + 1 ≤ _; omega), fun p8 n8 => ?_⟩
          have s8 := same_new (o := .lst (as.map V.ref ++ [V.ref p5])) n8
          have hp8 : (upd H7 p8 (.lst (as.map V.ref ++ [V.ref p5]))) p8 = some (.lst ((as ++ [p5]).map V.ref)) := by
            rw [upd_same, List.map_append]
            rfl
          generalize upd H7 p8 (.lst (as.map V.ref ++ [V.ref p5])) = H8 at s8 hp8 ⊢
          have s58 := s7.trans s8
          have lt8 := lt5.exc hn1 (.of s58) o2
          have st8 := st5.exc hn1 (.of s58)
          have bx8 := bx5.same s58
          have wo' : WsOk tags 1000 (ws ++ [mv]) := ((wo.mono (show c ≤ 1000 by omega))).snoc a1.1 (by omega)
          have lw : (ws ++ [mv]).length = ws.length + 1 := List.length_append
          refine ⟨a, b, p8, as ++ [p5], tags, F, ws ++ [mv], rfl, Same.word hide_sub st8.tg, Same.form hide_sub st8.key, hp8, Paired.snoc (L2.Paired.mapP lt8.all fun _ _ z => Same.word hide_sub z) (Same.word s58 w5), ok.to, fo, wo', by rw [lw]; omega, fun r H9 s9 t9 => ?_⟩
          rw [lw] at t9
          obtain ⟨kk, hkk⟩ : ∃ kk, kk = boxKeys tags F (ws ++ [mv]) := ⟨_, rfl⟩
          rw [← hkk] at t9
          obtain ⟨r0, A, hr9, gA⟩ := t9
          have ekk : kk = boxKeys tags F ws ++ [make tags F mv] := by
            rw [hkk]
            unfold boxKeys
            rw [List.map_append]
            rfl
          have kl : (boxKeys tags F ws).length = ws.length := List.length_map _
          have hkw : kk.getD ws.length [] = make tags F mv := by
            rw [ekk, List.getD_eq_getElem?_getD, List.getElem?_append_right (by omega), kl, Nat.sub_self]
            rfl
          have hwk : withKey kk (ws.length + 1) (make tags F mv) = withKey (boxKeys tags F ws) ws.length (make tags F mv) ++ [ws.length] := by
            have h := withKey_new (ks := boxKeys tags F ws) (w := make tags F mv)
            rw [kl] at h
            rw [ekk]
            exact h
          have s59 := s58.trans s9
          have lt9 := lt5.exc hn1 (.of s59) o2
          refine ⟨r, rfl, ⟨_, SqL.of hr9⟩, fun D nD => ?_⟩
          refine lc_filter (walk_list (K := K) (a := r) (xs := (seenTo kk (ws.length + 1)).map fun k => V.ref (A k))) nD (by rw [List.length_map]; have := seenTo_len kk (ws.length + 1); omega) (fun H' s' => SqL.of (s' _ _ hr9)) (fun n => V.ref (A ((seenTo kk (ws.length + 1)).getD n []))) (fun n => decide (ws.length ∈ withKey kk (ws.length + 1) ((seenTo kk (ws.length + 1)).getD n []))) ?_ ?_
          · rintro n x Ha Hb k N hn sa ⟨rfl, hx⟩ y1 y2
            rw [List.length_map] at hn
            have hx : ((seenTo kk (ws.length + 1)).map fun k => V.ref (A k))[n]? = some x := hx
            have eg : (seenTo kk (ws.length + 1)).getD n [] = (seenTo kk (ws.length + 1))[n] := by
              rw [List.getD_eq_getElem?_getD, List.getElem?_eq_getElem hn]
              rfl
            rw [eg] at y1 y2
            rw [List.getElem?_map, List.getElem?_eq_getElem hn] at hx
            cases hx
            have hm : (seenTo kk (ws.length + 1))[n] ∈ seenTo kk (ws.length + 1) := List.getElem_mem hn
            generalize (seenTo kk (ws.length + 1))[n] = u at hm y1 y2 ⊢
            refine ⟨rfl, _, rfl, _, _, rfl, .inl (SqL.of (sa _ _ lt9.lst)), ?_⟩
            refine ⟨_, rfl, A u, _, rfl, .inl (SqL.of (sa _ _ (gA.at_ u hm))), rfl, vN_flat _, ?_⟩
            rw [List.length_map, hal, inV_nats]
            by_cases e : ws.length ∈ withKey kk (ws.length + 1) u
            · rw [decide_eq_true e]
              exact ⟨_, rfl, iteT ⟨_, rfl, y1 (decide_eq_true e) _ (Same.refl _)⟩⟩
            · rw [decide_eq_false e]
              exact ⟨_, rfl, iteF (y2 (decide_eq_false e) _ (Same.refl _))⟩
          · intro Ha sa ha'
            rw [List.length_map] at ha'
            rw [filter_refs (A := A) (i := ws.length) (kk := kk) (n := ws.length + 1) (by omega), hkw] at ha'
            refine ⟨D, _, 0, _, rfl, rfl, SqL.of ha', rfl, ?_⟩
            have s5a := s59.trans sa
            have hmk : make tags F mv ∈ seenTo kk (ws.length + 1) := hkw ▸ mem_seenTo (by omega)
            have ht := sa _ _ (gA.at_ _ hmk)
            have bxa := bx5.same s5a
            obtain ⟨dx, pl, ke, es, ts, bb⟩ := id bxa
            refine ⟨_, rfl, m, dx, _, rfl, hide_sub _ _ bb.obj, rfl, ?_⟩
            clear bb
            refine ⟨_, rfl, _, rfl, M, m, ll, tags, Gs, Gk, ws, i, j, rfl, bxa, ok, wo100, tr_same T5 s5a, hi, hj, by omega, fun pf Hf sf nf hf => ?_⟩
            rw [← hmv, boxKeys_eq hK wo, hK mv a1.1, ← hwk] at hf
            refine ⟨_, rfl, _, rfl, eq_enc enc_nats (by decide) (dp_nats hf) (dp_nats (sf _ _ ht)) (fun _ _ => trivial) (fun _ _ => trivial) ?_⟩
            rw [decide_eq_true rfl]
            have s5f := s5a.trans sf
            have bxf := bx5.same s5f
            have ltf := lt5.exc hn1 (.of s5f) o2
            refine ⟨_, rfl, ?_⟩
            refine iteT ?_
            obtain ⟨dx, pl, ke, es, ts, bb⟩ := id bxf
            refine ⟨_, rfl, m, dx, _, rfl, hide_sub _ _ bb.obj, M, m, ll, tags, Gs, Gk, ws, rfl, bxf, ws.length, rfl, Nat.lt_of_le_of_lt hl (by decide), ?_⟩
            refine ⟨_, rfl, _, _, rfl, .inl (SqL.of ltf.lst), rfl, ?_⟩
            rw [List.length_map, hal, decide_eq_true rfl]
            exact q Hf ws as (X5.trans (.of s5f)) (p6.same s5f) (tr_same T5 s5f ll llM) bxf ltf (wo.mono (by omega)) (by omega)
        · refine ⟨_, rfl, rfl, _, rfl, ?_⟩
          rw [decide_eq_false (show ¬ V.int ((way : Nat) : Int) = V.int 4 from fun z => h4 (by have := V.int.inj z; omega))]
          refine iteF ?_
          refine ⟨_, rfl, .inl ⟨rfl, _, SqL.of lt5.lst⟩, _, rfl, la, _, _, rfl, rfl, lt5.lst, by rw [List.length_map, hal]; exact sz_lt (by omega), ?_⟩
          have lt7 := lt5.push w5 p5M
          have x7 : Exc [la] H5 (upd H5 la (.lst (as.map V.ref ++ [V.ref p5]))) := exc_mut
          have bx7 := bx5.exc hn3 x7 o6
          have p7 := p6.exc x7 o5
          have T7 : ∀ b ∈ M, (upd H5 la (.lst (as.map V.ref ++ [V.ref p5]))) b ≠ none := trN T5 x7 fun b hb => by
            rw [List.mem_singleton.mp hb, upd_same]
            exact fun z => nomatch z
          have X7 := X5.trans (to3 m3 x7)
          generalize upd H5 la (.lst (as.map V.ref ++ [V.ref p5])) = H7 at lt7 x7 bx7 p7 T7 X7 ⊢
          obtain ⟨dx, pl, ke, es, ts, bb⟩ := id bx7
          refine ⟨_, rfl, m, dx, _, rfl, hide_sub _ _ bb.obj, rfl, ?_⟩
          clear bb
          refine ⟨_, rfl, _, rfl, M, m, ll, tags, Gs, Gk, ws, i, j, rfl, bx7, ok, wo100, T7, hi, hj, by omega, fun H8 b8 x8 n8 => ?_⟩
          have lt8 := lt7.exc hn2 x8 o4
          refine ⟨_, rfl, _, _, rfl, .inl (SqL.of lt8.lst), _, _, rfl, rfl, rfl, ?_⟩
          have e : decide (V.int (ws.length : Int) = V.int (((((as ++ [p5]).map V.ref).length : Nat) : Int) - 1)) = true := by
            rw [List.length_map, List.length_append, hal]
            exact decide_eq_true (by congr 1; show _ = ((ws.length + 1 : Nat) : Int) - 1; omega)
          rw [e]
          exact q H8 _ _ (X7.trans (to3 m2 x8)) (p7.exc x8 o3) n8 b8 lt8 ((wo.mono (by omega)).snoc a1.1 aL) (by rw [List.length_append]; exact Nat.le_refl _)
end
end Law
end

section
set_option Elab.async false
set_option linter.all false
set_option maxRecDepth 100000
set_option maxHeartbeats 4000000
namespace Law
open PySem PySem.Spec PyProof.Rows L2 LamX QB QM
/-! the heap without some lists and without tables -/
def hideT (M : List Addr) (H : Hp) : Hp := fun a => if a ∈ M then none else match H a with
  | some (.tbl _) => none
  | o => o
theorem hideT_at {M : List Addr} {a : Addr} {H : Hp} {o : HO} (n : a ∉ M) (h : H a = some o) (nt : ∀ ps, o ≠ .tbl ps := by intro _ z; cases z) : hideT M H a = some o := by
  unfold hideT
  rw [if_neg n, h]
  cases o with
  | tbl ps => exact absurd rfl (nt ps)
  | _ => rfl
theorem hideT_get {M : List Addr} {a : Addr} {H : Hp} {o : HO} (h : hideT M H a = some o) : a ∉ M ∧ H a = some o ∧ ∀ ps, o ≠ .tbl ps := by
  unfold hideT at h
  by_cases e : a ∈ M
  · rw [if_pos e] at h
    cases h
  · rw [if_neg e] at h
    refine ⟨e, ?_⟩
    cases q : H a with
    | none =>
      rw [q] at h
      cases h
    | some u =>
      rw [q] at h
      cases u with
      | tbl ps => cases h
      | _ =>
        cases h
        exact ⟨rfl, fun _ z => nomatch z⟩
theorem hideT_exc {M N : List Addr} {H H' : Hp} (h : ∀ n ∈ N, n ∈ M) (x : Exc N H H') : Same (hideT M H) (hideT M H') := fun b o z => by
  obtain ⟨n, z, t⟩ := hideT_get z
  exact hideT_at n (x b o (fun y => n (h b y)) z) t
theorem hideT_ext {T : List (Addr × Str)} {M : List Addr} {H H' : Hp} (x : QB.Ext T H H') : Same (hideT M H) (hideT M H') := fun b o z => by
  obtain ⟨n, z, t⟩ := hideT_get z
  exact hideT_at n (x.get z t) t
theorem hideT_same {M : List Addr} {H H' : Hp} (x : Same H H') : Same (hideT M H) (hideT M H') := hideT_exc (N := []) (fun _ h => nomatch h) (.of x)
theorem hideT_sub {M : List Addr} {H : Hp} : Same (hideT M H) H := fun b o z => (hideT_get z).2.1
theorem hideT_hide {M : List Addr} {H : Hp} : Same (hideT M H) (hide M H) := fun b o z => hide_at (hideT_get z).1 (hideT_get z).2.1
theorem hideT_grow {M : List Addr} {H H' : Hp} {d : Addr} (n : H d = none) (s : Same H H') : Same (hideT M H) (hideT (d :: M) H') := fun b u z => by
  obtain ⟨h1, h2, h3⟩ := hideT_get z
  have e : b ≠ d := ne_of_none h2 n
  exact hideT_at (fun y => (List.mem_cons.mp y).elim e h1) (s _ _ h2) h3
theorem hideT_less {M : List Addr} {H : Hp} {d : Addr} : Same (hideT (d :: M) H) (hideT M H) := fun b u z => by
  obtain ⟨h1, h2, h3⟩ := hideT_get z
  exact hideT_at (fun y => h1 (List.mem_cons_of_mem _ y)) h2 h3
theorem nf_hide {M : List Addr} {H0 H : Hp} {f : Addr} {L : List Tri} {F : Form} (ls : ∀ b ∈ M, ∃ xs, H0 b = some (.lst xs)) (n : NewF H0 H f L F) : FormAt (hideT M H) f F := by
  have out : ∀ {a : Addr}, Fresh H0 a → a ∉ M := fun {a} fr z => by
    obtain ⟨xs, h⟩ := ls a z
    exact absurd rfl (fr.ne h)
  refine ⟨L.map (·.1), ?_, ?_⟩
  · have h := hideT_at (out n.new) n.lst
    rw [h, List.map_map]
    rfl
  · have key : ∀ {L' : List Tri} {F' : Form}, Paired (fun (x : Tri) (s : Std) => H x.1 = some (.tup [.ref x.2.1, .ref x.2.2]) ∧ WordAt H x.2.1 s.1 ∧ WaysAt H x.2.2 s.2) L' F' → (∀ x ∈ L', x ∈ L) → Paired (StdAt (hideT M H)) (L'.map (·.1)) F' := by
      intro L' F' h
      induction h with
      | nil => exact fun _ => .nil
      | cons h _ ih =>
        intro hm
        obtain ⟨f1, f2, f3⟩ := n.all.new _ (hm _ List.mem_cons_self)
        exact .cons ⟨_, _, hideT_at (out f1) h.1, hideT_at (out f2) h.2.1, hideT_at (out f3) h.2.2⟩ (ih fun x hx => hm x (List.mem_cons_of_mem _ hx))
    exact key n.all.at_ fun _ h => h
theorem ea_hide {C : Addr} {M : List Addr} {H0 H : Hp} {e dx a b : Addr} {L : List Tri} {tags : Word} {G : Form} (ls : ∀ b ∈ M, ∃ xs, H0 b = some (.lst xs)) (n : EatN C H0 H e dx a b L tags G) : EatAt C (hideT M H) e tags G := by
  have out : ∀ {a : Addr}, Fresh H0 a → a ∉ M := fun {a} fr z => by
    obtain ⟨xs, h⟩ := ls a z
    exact absurd rfl (fr.ne h)
  exact ⟨dx, a, b, hideT_at (out n.fe) n.ins, hideT_at (out n.fa) n.tags, nf_hide ls n.form⟩
/-- the lists that change, all of them new since the law began -/
structure Pl (T : List (Addr × Str)) (H H' : Hp) (M : List Addr) (p : Addr) : Prop where
  ext : QB.Ext T H H'
  fr : ∀ n ∈ M, Fresh H n
  ls : ∀ n ∈ M, ∃ xs, H' n = some (.lst xs)
  pl : PileAt H' p
  pM : p ∈ M
theorem extN {T : List (Addr × Str)} {H H1 H2 : Hp} {N : List Addr} (a : QB.Ext T H H1) (e : Exc N H1 H2) (f : ∀ n ∈ N, Fresh H n) (l : ∀ n ∈ N, ∃ xs, H1 n = some (.lst xs)) : QB.Ext T H H2 := by
  refine ⟨fun b o h n => e b o (fun z => (f b z).ne h n rfl) (a.get h n), fun t => ?_⟩
  intro q hq
  obtain ⟨ps, h1, h2, h3⟩ := a.2 t q hq
  have k : ∀ {c : Addr} {o : HO}, H1 c = some o → (∀ xs, o ≠ .lst xs) → H2 c = some o := fun {c o} h n => e c o (fun z => by
    obtain ⟨xs, y⟩ := l c z
    rw [y] at h
    exact n _ (Option.some.inj h).symm) h
  refine ⟨ps, k h1 (fun _ z => nomatch z), h2, fun pos cv hc => ?_⟩
  obtain ⟨c, e1, e2⟩ := h3 pos cv hc
  exact ⟨c, e1, k e2 (fun xs z => (show Plain (.lst xs) from trivial).code c _ z.symm)⟩
section
variable {T : List (Addr × Str)} {H H1 H2 : Hp} {M : List Addr} {p : Addr}
theorem Pl.same (c : Pl T H H1 M p) (s : Same H1 H2) : Pl T H H2 M p := ⟨c.ext.trans (.of s), c.fr, fun n h => (c.ls n h).imp fun _ z => s _ _ z, c.pl.same s, c.pM⟩
theorem Pl.exT (c : Pl T H H1 M p) (s : QB.Ext T H1 H2) : Pl T H H2 M p := by
  refine ⟨c.ext.trans s, c.fr, fun n h => (c.ls n h).imp fun _ z => s.lst z, ?_, c.pM⟩
  obtain ⟨_, _, _, h⟩ := c.pl
  exact ⟨_, _, _, s.lst h⟩
theorem Pl.exc {N : List Addr} (c : Pl T H H1 M p) (hN : ∀ n ∈ N, n ∈ M) (x : Exc N H1 H2) (l : ∀ n ∈ N, ∃ xs, H2 n = some (.lst xs)) (pl : PileAt H2 p) : Pl T H H2 M p := by
  refine ⟨extN c.ext x (fun n h => c.fr n (hN n h)) fun n h => c.ls n (hN n h), c.fr, fun n h => ?_, pl, c.pM⟩
  by_cases z : n ∈ N
  · exact l n z
  · exact (c.ls n h).imp fun _ y => x _ _ z y
theorem Pl.draw (c : Pl T H H1 M p) (x : Exc [p] H1 H2) (pl : PileAt H2 p) : Pl T H H2 M p := c.exc (fun n h => List.mem_singleton.mp h ▸ c.pM) x (fun n h => by
  obtain ⟨_, _, _, z⟩ := pl
  exact ⟨_, List.mem_singleton.mp h ▸ z⟩) pl
theorem Pl.grow {d : Addr} (c : Pl T H H1 M p) (s : Same H1 H2) (n : H1 d = none) (l : ∃ xs, H2 d = some (.lst xs)) : Pl T H H2 (d :: M) p := by
  have c2 := c.same s
  refine ⟨c2.ext, fun q h => ?_, fun q h => ?_, c2.pl, List.mem_cons_of_mem _ c.pM⟩
  · rcases List.mem_cons.mp h with rfl | h
    · exact c.ext.fresh (.of n)
    · exact c.fr q h
  · rcases List.mem_cons.mp h with rfl | h
    · exact l
    · exact c2.ls q h
theorem Pl.less {d : Addr} (c : Pl T H H1 (d :: M) p) (h : p ≠ d) : Pl T H H1 M p := ⟨c.ext, fun q z => c.fr q (List.mem_cons_of_mem _ z), fun q z => c.ls q (List.mem_cons_of_mem _ z), c.pl, (List.mem_cons.mp c.pM).resolve_left h⟩
theorem Pl.out {d : Addr} (c : Pl T H H1 M p) (n : H1 d = none) : d ∉ M := fun z => by
  obtain ⟨xs, h⟩ := c.ls d z
  rw [n] at h
  cases h
theorem Pl.none (c : Pl T H H1 M p) : ∀ b ∈ M, H1 b ≠ none := fun b h z => c.out z h
theorem Pl.put {d : Addr} {xs : List V} (c : Pl T H H1 M p) (h : d ∈ M) (n : p ≠ d) : Pl T H (upd H1 d (.lst xs)) M p := by
  refine c.exc (N := [d]) (fun q z => List.mem_singleton.mp z ▸ h) exc_mut (fun q z => ?_) (c.pl.exc exc_mut (by simpa using n))
  rw [List.mem_singleton.mp z, upd_same]
  exact ⟨_, rfl⟩
end
theorem hideT_put {M : List Addr} {H : Hp} {d : Addr} {o : HO} (h : d ∈ M) : Same (hideT M H) (hideT M (upd H d o)) := hideT_exc (N := [d]) (fun q z => List.mem_singleton.mp z ▸ h) exc_mut
end Law
end

section
set_option Elab.async false
set_option linter.all false
set_option maxRecDepth 100000
set_option maxHeartbeats 8000000
namespace Law
open PySem PySem.Spec PyProof.Rows L2 LamX QB QM
structure StT (M : List Addr) (H : Hp) (a ev b : Addr) (fs : List Addr) (tags : Word) (Fs : List Form) (F : Form) : Prop where
  tg : WordAt (hideT M H) a tags
  ev : hideT M H ev = some (.lst (fs.map V.ref))
  evs : Paired (FormAt (hideT M H)) fs Fs
  key : FormAt (hideT M H) b F
theorem StT.move {M M' : List Addr} {H H' : Hp} {a ev b : Addr} {fs : List Addr} {tags : Word} {Fs : List Form} {F : Form} (s : StT M H a ev b fs tags Fs F) (y : Same (hideT M H) (hideT M' H')) : StT M' H' a ev b fs tags Fs F :=
  ⟨Same.word y s.tg, y _ _ s.ev, L2.Paired.mapP s.evs fun _ _ z => Same.form y z, Same.form y s.key⟩
def Raw (CM : Addr) (M : List Addr) (H : Hp) (m ll re : Addr) (es : List Addr) : Prop := ∃ dx pl, hideT M H m = some (.ins CM dx (boxFs pl re ll)) ∧ hideT M H pl = some (.lst (es.map V.ref))
theorem Raw.move {CM : Addr} {M M' : List Addr} {H H' : Hp} {m ll re : Addr} {es : List Addr} (r : Raw CM M H m ll re es) (y : Same (hideT M H) (hideT M' H')) : Raw CM M' H' m ll re es := by
  obtain ⟨dx, pl, h1, h2⟩ := r
  exact ⟨dx, pl, y _ _ h1, y _ _ h2⟩
/-- all that stays -/
structure Fix (CE CM : Addr) (M : List Addr) (H : Hp) (a ev b re m1 ll1 m2 ll2 : Addr) (fs es : List Addr) (tags : Word) (Fs : List Form) (F : Form) : Prop where
  st : StT M H a ev b fs tags Fs F
  esA : Paired (fun e G => EatAt CE (hideT M H) e tags G) es (Fs.map (least tags))
  reA : EatAt CE (hideT M H) re tags (least tags F)
  r1 : Raw CM M H m1 ll1 re es
  r2 : Raw CM M H m2 ll2 re es
theorem Fix.move {CE CM : Addr} {M M' : List Addr} {H H' : Hp} {a ev b re m1 ll1 m2 ll2 : Addr} {fs es : List Addr} {tags : Word} {Fs : List Form} {F : Form} (f : Fix CE CM M H a ev b re m1 ll1 m2 ll2 fs es tags Fs F) (y : Same (hideT M H) (hideT M' H')) : Fix CE CM M' H' a ev b re m1 ll1 m2 ll2 fs es tags Fs F :=
  ⟨f.st.move y, L2.Paired.mapP f.esA fun _ _ z => z.same y, f.reA.same y, f.r1.move y, f.r2.move y⟩
theorem Fix.box1 {CE CM : Addr} {M : List Addr} {H : Hp} {a ev b re m1 ll1 m2 ll2 : Addr} {fs es : List Addr} {tags : Word} {Fs : List Form} {F : Form} (f : Fix CE CM M H a ev b re m1 ll1 m2 ll2 fs es tags Fs F) (h : H ll1 = some (.lst [])) (hm : ll1 ∈ M) : BoxAt CE CM M H m1 ll1 tags (Fs.map (least tags)) (least tags F) [] := by
  obtain ⟨dx, pl, h1, h2⟩ := f.r1
  exact ⟨dx, pl, re, es, [], hideT_hide _ _ h1, ⟨hideT_hide _ _ h2, L2.Paired.mapP f.esA fun _ _ z => z.same hideT_hide⟩, f.reA.same hideT_hide, h, .nil, hm⟩
theorem Fix.box2 {CE CM : Addr} {M : List Addr} {H : Hp} {a ev b re m1 ll1 m2 ll2 : Addr} {fs es : List Addr} {tags : Word} {Fs : List Form} {F : Form} (f : Fix CE CM M H a ev b re m1 ll1 m2 ll2 fs es tags Fs F) (h : H ll2 = some (.lst [])) (hm : ll2 ∈ M) : BoxAt CE CM M H m2 ll2 tags (Fs.map (least tags)) (least tags F) [] := by
  obtain ⟨dx, pl, h1, h2⟩ := f.r2
  exact ⟨dx, pl, re, es, [], hideT_hide _ _ h1, ⟨hideT_hide _ _ h2, L2.Paired.mapP f.esA fun _ _ z => z.same hideT_hide⟩, f.reA.same hideT_hide, h, .nil, hm⟩
theorem make_box {CE CM x dx p0 re : Addr} {H : Hp} {R : Hp → Prop} {E : XK} {es : List Addr} {tags : Word} {Gs : List Form} {Gk : Form} (hx : H x = none) (hd : H dx = none) (hne : dx ≠ x) (hp : ProgsAt CE H p0 es tags Gs) (hk : EatAt CE H re tags Gk) (okw : OkWord tags) (h1 : 1 ≤ Gs.length) (h6 : Gs.length ≤ 6)
    (k : ∀ pl ll H', Same H H' → H x = none → H pl = none → H ll = none → pl ≠ ll → x ≠ ll → H' x = some (.ins CM dx (boxFs pl re ll)) → H' pl = some (.lst (es.map V.ref)) → H' ll = some (.lst []) → R H') :
    spInitM CE CM [.ref x, .ref p0, .ref re] (upd (upd H dx (.own x)) x (.ins CM dx [])) (fun v H2 => v = .non ∧ R H2) E := by
  have sM : Same H (upd (upd H dx (.own x)) x (.ins CM dx [])) := Same.new (same_new hd) ((upd_ne hne.symm).trans hx)
  refine ⟨x, dx, p0, re, es, tags, Gs, Gk, rfl, upd_same, hp.same sM, hk.same sM, okw, h1, h6, fun pl ll H' xE npl nll ne hx' hpl hll => ⟨rfl, ?_⟩⟩
  refine k pl ll H' (fun c o h => xE c o (fun z => ?_) (sM _ _ h)) hx (sM.free npl) (sM.free nll) ne (fun z => ?_) hx' hpl hll
  · rw [List.mem_singleton.mp z, hx] at h
    cases h
  · rw [z, hll] at hx'
    cases hx'
section
variable {P : Program} {w : World} {K : PySem.W.Frag} {mg : Str → Option Value} {base : Heap}
def spLaw (K : PySem.W.Frag) (T : List (Addr × Str)) : Sp := fun vs H Q _ => ∃ (l : Addr) (ns : List Int), vs = [.ref l] ∧ SqL K H l (ns.map V.int) ∧ Tabs T H ∧ ∀ H', Q (.bl true) H'
theorem ok_law (X : TX K mg) (TB : LamX.TabB base mg X.lam_c X.lam_P) (hB : ∃ mm, base.Ns sysModules mm) (hc : Room 8 callerA) : QT.RunG P w K mg base CX0 X.d_law.a X.d_law.fd "script" (spLaw K (Tof X)) := by
  have nd := sc_law.nd
  refine QT.run_ofG X.d_law.F sc_law hc (fun vs H Q E h => ?_) (fun cdv s0 H vs Q E hr h => ?_)
  · obtain ⟨l, ns, rfl, _⟩ := h
    rfl
  · obtain ⟨l, ns, rfl, hl, tb, q⟩ := h
    refine ⟨_, (pss_cons (ps_for PassesOwn.never rfl (pi_range1 (by rfl) X.n_range (pa_cons pe_int pa_nil)) (pg_name (i := 1) nd rfl (Or.inl rfl)) (pss_cons (ps_set (i := 2) nd rfl (Or.inr rfl) (pe_call (ok__law_pile X) (hr.mono (by decide)) rfl X.d__law_pile.mg X.d__law_pile.F.kp X.d__law_pile.b .nil pass0 (pa_cons (pv 0) (pa_cons (pv 1) pa_nil)))) (pss_cons (ps_set (i := 3) nd rfl (Or.inr rfl) (pe_call (ok__law_tags X) (hr.mono (by decide)) rfl X.d__law_tags.mg X.d__law_tags.F.kp X.d__law_tags.b .nil pass0 (pa_cons (pv 2) (pa_cons (pe_op op_add pe_int (pe_call (ok__law_take X) (hr.mono (by decide)) rfl X.d__law_take.mg X.d__law_take.F.kp X.d__law_take.b .nil pass0 (pa_cons (pv 2) (pa_cons pe_int pa_nil)))) pa_nil)))) (pss_cons (ps_setLc (i := 5) (own := [("turn", 4)]) (g := gName 4) (tt := tYes) rfl nd rfl rfl (sw_true rfl rfl rfl (by decide +kernel)) (pi_range1 (by rfl) X.n_range (pa_cons (pe_op op_add pe_int (pe_call (ok__law_take X) (hr.mono (by decide)) rfl X.d__law_take.mg X.d__law_take.F.kp X.d__law_take.b .nil pass0 (pa_cons (pv 2) (pa_cons pe_int pa_nil)))) pa_nil)) (blkOk_by (N := ["script", "at", "pile", "tags", "turn", "every", "key", "handed", "reader", "mailbox", "beside", "letters", "others", "subject", "boxes", "box", "some", "standings"]) (sc := defScope s_law) (by decide +kernel)) (fun _ _ _ _ _ => pg_name (i := 4) nd rfl (Or.inl rfl)) (fun _ _ _ _ _ => pts_nil) (fun _ _ _ _ _ => (pe_call (ok__law_standings X) (hr.mono (by decide)) rfl X.d__law_standings.mg X.d__law_standings.F.kp X.d__law_standings.b .nil pass0 (pa_cons (pv 2) (pa_cons (pv 3) (pa_cons pe_int (pa_cons pe_int pa_nil))))))) (pss_cons (ps_set (i := 6) nd rfl (Or.inl rfl) (pe_call (ok__law_standings X) (hr.mono (by decide)) rfl X.d__law_standings.mg X.d__law_standings.F.kp X.d__law_standings.b .nil pass0 (pa_cons (pv 2) (pa_cons (pv 3) (pa_cons pe_int (pa_cons pe_int pa_nil)))))) (pss_cons (ps_setLc (i := 7) (own := [("standings", 17)]) (g := gName 17) (tt := tYes) rfl nd rfl rfl (sw_true rfl rfl rfl (by decide +kernel)) (QB.pi_listK K (pv 5)) (blkOk_by (N := ["script", "at", "pile", "tags", "turn", "every", "key", "handed", "reader", "mailbox", "beside", "letters", "others", "subject", "boxes", "box", "some", "standings"]) (sc := defScope s_law) (by decide +kernel)) (fun _ _ _ _ _ => pg_name (i := 17) nd rfl (Or.inl rfl)) (fun _ _ _ _ _ => pts_nil) (fun _ _ _ _ _ => (pe_make X.mk_Eater (ok_Eater___init__ X TB) (hr.mono (by decide)) rfl X.m_Eater X.d_Eater___init__.b .nil pass0 (pa_cons (pv 3) (pa_cons (pv 17) pa_nil))))) (pss_cons (ps_set (i := 8) nd rfl (Or.inl rfl) (pe_make X.mk_Eater (ok_Eater___init__ X TB) (hr.mono (by decide)) rfl X.m_Eater X.d_Eater___init__.b .nil pass0 (pa_cons (pv 3) (pa_cons (pv 6) pa_nil)))) (pss_cons (ps_par (i := 9) (j := 10) (by rfl) nd rfl rfl (by decide) rfl rfl (pa_cons (pe_make X.mk_Mailbox (ok_Mailbox___init__ X) (hr.mono (by decide)) rfl X.m_Mailbox X.d_Mailbox___init__.b .nil pass0 (pa_cons (pv 7) (pa_cons (pv 8) pa_nil))) (pa_cons (pe_make X.mk_Mailbox (ok_Mailbox___init__ X) (hr.mono (by decide)) rfl X.m_Mailbox X.d_Mailbox___init__.b .nil pass0 (pa_cons (pv 7) (pa_cons (pv 8) pa_nil))) pa_nil)) (by rfl)) (pss_cons (ps_expr (QB.pe_bm0K K PySem.F.plainAttrs_list PySem.F.slot_list_clear PySem.F.type_list_clear mt_clear (pv 7))) (pss_cons (ps_set (i := 11) nd rfl (Or.inl rfl) (pe_lst pa_nil)) (pss_cons (ps_setLc (i := 12) (own := [("turn", 4)]) (g := gName 4) (tt := tYes) rfl nd rfl rfl (sw_true rfl rfl rfl (by decide +kernel)) (pi_range1 (by rfl) X.n_range (pa_cons pe_int pa_nil)) (blkOk_by (N := ["script", "at", "pile", "tags", "turn", "every", "key", "handed", "reader", "mailbox", "beside", "letters", "others", "subject", "boxes", "box", "some", "standings"]) (sc := defScope s_law) (by decide +kernel)) (fun _ _ _ _ _ => pg_name (i := 4) nd rfl (Or.inl rfl)) (fun _ _ _ _ _ => pts_nil) (fun _ _ _ _ _ => (pe_call (ok__law_word X) (hr.mono (by decide)) rfl X.d__law_word.mg X.d__law_word.F.kp X.d__law_word.b .nil pass0 (pa_cons (pv 2) (pa_cons (pv 3) (pa_cons pe_int pa_nil)))))) (pss_cons (ps_for PassesOwn.never rfl (QB.pi_listK K (pv 12)) (pg_name (i := 13) nd rfl (Or.inl rfl)) (pss_one (ps_expr (pe_meth (pv 10) X.cl_Mailbox X.h_Mailbox_begin (ok_Mailbox_begin X) (hr.mono (by decide)) X.d_Mailbox_begin.b .nil pass0 (pa_cons (pv 13) pa_nil))))) (pss_cons (ps_set (i := 14) nd rfl (Or.inl rfl) (pe_lst (pa_cons (pe_tup (pa_cons (pv 9) (pa_cons (pv 11) pa_nil))) (pa_cons (pe_tup (pa_cons (pv 10) (pa_cons (pv 12) pa_nil))) pa_nil)))) (pss_one (ps_for PassesOwn.never rfl (pi_range1 (by rfl) X.n_range (pa_cons (pe_call (ok__law_take X) (hr.mono (by decide)) rfl X.d__law_take.mg X.d__law_take.F.kp X.d__law_take.b .nil pass0 (pa_cons (pv 2) (pa_cons pe_int pa_nil))) pa_nil)) (pg_name (i := 4) nd rfl (Or.inl rfl)) (pss_cons (ps_asg (pe_ix (QB.ix_listK K) (pv 14) (pe_ix (QB.ix_listK K) (pe_lst (pa_cons pe_int (pa_cons pe_int (pa_cons pe_int pa_nil)))) (pe_call (ok__law_take X) (hr.mono (by decide)) rfl X.d__law_take.mg X.d__law_take.F.kp X.d__law_take.b .nil pass0 (pa_cons (pv 2) (pa_cons pe_int pa_nil))) (fun _ _ => rfl)) (fun _ _ => rfl)) (pg_tup (by rfl) (pgs_cons (pg_name (i := 15) nd rfl (Or.inl rfl)) (pgs_cons (pg_name (i := 16) nd rfl (Or.inl rfl)) (pgs_nil))))) (pss_cons (ps_if (pt_not (pt_val (pe_call (ok__law_deed_right X) (hr.mono (by decide)) rfl X.d__law_deed_right.mg X.d__law_deed_right.F.kp X.d__law_deed_right.b .nil pass0 (pa_cons (pv 2) (pa_cons (pv 15) (pa_cons (pv 3) (pa_cons (pv 5) (pa_cons (pv 6) (pa_cons (pv 16) pa_nil))))))))) (pss_one (ps_ret pe_bl)) pss_nil) (pss_one (ps_if (PW.pt (pw_or (pt_not (pt_val (pe_call (ok__law_box_right X) (hr.mono (by decide)) rfl X.d__law_box_right.mg X.d__law_box_right.F.kp X.d__law_box_right.b .nil pass0 (pa_cons (pv 9) (pa_cons (pv 3) (pa_cons (pv 6) (pa_cons (pv 11) pa_nil))))))) (pw_or1 (pt_not (pt_val (pe_call (ok__law_box_right X) (hr.mono (by decide)) rfl X.d__law_box_right.mg X.d__law_box_right.F.kp X.d__law_box_right.b .nil pass0 (pa_cons (pv 10) (pa_cons (pv 3) (pa_cons (pv 6) (pa_cons (pv 12) pa_nil)))))))))) (pss_one (ps_ret pe_bl)) pss_nil))))))))))))))))))) (pss_one (ps_ret pe_bl))), ?_⟩
    try dsimp only [Cx.nox, Cx.wish, cxOf]
    refine ⟨(4 : Int), rfl, by decide, by decide, ?_⟩
    refine for_it (walk_range (lo := 0) (n := 4)) (fun i σ H' => ∃ v1 v2 v3 v4 v5 v6 v7 v8 v9 v10 v11 v12 v13 v14 v15 v16 v17 : Option V, σ = [some (.ref l), v1, v2, v3, v4, v5, v6, v7, v8, v9, v10, v11, v12, v13, v14, v15, v16, v17] ∧ QB.Ext (Tof X) H H')
      ⟨none, none, none, none, none, none, none, none, none, none, none, none, none, none, none, none, none, rfl, .refl⟩ (fun _ _ _ _ _ => True.intro) ?_ ?_
    · rintro i x σ H1 H2 hi ⟨v1, v2, v3, v4, v5, v6, v7, v8, v9, v10, v11, v12, v13, v14, v15, v16, v17, rfl, e1⟩ ⟨rfl, rfl⟩
      refine ⟨_, rfl, _, rfl, ?_⟩
      refine ⟨l, ns, 0 + i, rfl, e1.sqL hl, fun p G0 s0' np P0 => ?_⟩
      have c0 : Pl (Tof X) H G0 [p] p := ⟨e1.trans (.of s0'), fun n h => List.mem_singleton.mp h ▸ e1.fresh (.of np), fun n h => by
        obtain ⟨_, _, _, z⟩ := P0
        exact ⟨_, List.mem_singleton.mp h ▸ z⟩, P0, List.mem_cons_self⟩
      clear s0' np e1 P0
      refine ⟨_, rfl, _, rfl, p, 3, rfl, by decide, by decide, c0.pl, fun r G1 hr x1 P1 => ?_⟩
      have c1 := c0.draw x1 P1
      refine ⟨_, _, rfl, rfl, ?_⟩
      refine ⟨p, 1 + r, rfl, by omega, by omega, P1, fun tags a G2 to tl x2 P2 na wa => ?_⟩
      have c2 := c1.draw x2 P2
      have ap : a ∉ [p] := fun z => by
        have h := List.mem_singleton.mp z
        obtain ⟨_, _, _, y⟩ := P1
        rw [h, y] at na
        cases na
      have tg2 : WordAt (hideT [p] G2) a tags := hideT_at ap wa
      clear x1 P1 x2 P2 na wa c1 c0
      -- every
      refine ⟨_, rfl, p, 3, rfl, by decide, by decide, c2.pl, fun r3 G3 hr3 x3 P3 => ?_⟩
      have c3 := c2.draw x3 P3
      have tg3 := Same.word (hideT_exc (fun _ h => h) x3) tg2
      clear x3 c2 tg2
      refine ⟨_, _, rfl, rfl, ((1 + r3 : Nat) : Int), rfl, by omega, by omega, fun D nD => ?_⟩
      have pD : p ≠ D := P3.ne nD
      rw [show (((1 + r3 : Nat) : Int)).toNat = 1 + r3 by omega]
      refine lc_it (walk_range (lo := 0) (n := 1 + r3)) (fun m H' => Pl (Tof X) H H' [D, p] p ∧ WordAt (hideT [D, p] H') a tags ∧ ∃ (fs : List Addr) (Fs : List Form), Fs.length = m ∧ H' D = some (.lst (fs.map V.ref)) ∧ Paired (FormAt (hideT [D, p] H')) fs Fs ∧ (∀ F ∈ Fs, FormOk tags F) ∧ (∀ F ∈ Fs, ∀ s ∈ F, s.1.length ≤ 2))
        ⟨c3.grow (same_new nD) nD ⟨_, upd_same⟩, Same.word (hideT_grow nD (same_new nD)) tg3, [], [], rfl, upd_same, .nil, (fun _ h => nomatch h), fun _ h => nomatch h⟩ (fun _ _ _ _ => True.intro) ?_ ?_
      · rintro m x H4' H4 hm ⟨c4, tg4, fs, Fs, hlen, hD4, hP, hok, hlo⟩ ⟨rfl, rfl⟩
        refine ⟨rfl, _, rfl, _, rfl, p, a, tags, 3, 2, rfl, by decide, by decide, by decide, c4.pl, Same.word hideT_sub tg4, to, fun F L f H6 fo fl fw x6 p6 n6 => ?_⟩
        have c6 := c4.draw x6 p6
        have y6 : Same (hideT [D, p] H4) (hideT [D, p] H6) := hideT_exc (fun n h => List.mem_singleton.mp h ▸ List.mem_cons_of_mem _ List.mem_cons_self) x6
        have hD6 := x6 D _ (by simpa using pD.symm) hD4
        have hfl : fs.length = Fs.length := Paired.length hP
        have y7 : Same (hideT [D, p] H6) (hideT [D, p] (upd H6 D (.lst (fs.map V.ref ++ [V.ref f])))) := hideT_put List.mem_cons_self
        refine ⟨_, hD6, by rw [List.length_map, hfl, hlen]; exact sz_lt (by omega), c6.put List.mem_cons_self pD, Same.word (y6.trans y7) tg4, fs ++ [f], Fs ++ [F], by rw [List.length_append, hlen]; rfl, by rw [upd_same, List.map_append]; rfl, ?_, ?_, ?_⟩
        · exact Paired.snoc (L2.Paired.mapP hP fun _ _ z => Same.form (y6.trans y7) z) (Same.form y7 (nf_hide c4.ls n6))
        · intro G hG
          rcases List.mem_append.mp hG with h | h
          · exact hok G h
          · rw [List.mem_singleton.mp h]
            exact fo
        · intro G hG
          rcases List.mem_append.mp hG with h | h
          · exact hlo G h
          · rw [List.mem_singleton.mp h]
            exact fw
      rintro H4 ⟨c4, tg4, fs, Fs, hlen, hD4, hP, hok, hlo⟩
      have c4 := c4.less pD
      have hev4 : hideT [p] H4 D = some (.lst (fs.map V.ref)) := hideT_at (by simpa using pD.symm) hD4
      have tg4 := Same.word hideT_less tg4
      have hP4 := L2.Paired.mapP hP fun _ _ z => Same.form hideT_less z
      clear hD4 hP tg3 nD c3 P3
      -- key
      refine ⟨_, rfl, _, rfl, p, a, tags, 3, 1, rfl, by decide, by decide, by decide, c4.pl, Same.word hideT_sub tg4, to, fun F L b H5 fo fl fw x5 p5 n5 => ?_⟩
      have c5 := c4.draw x5 p5
      have y5 : Same (hideT [p] H4) (hideT [p] H5) := hideT_exc (fun _ h => h) x5
      have st5 : StT [p] H5 a D b fs tags Fs F := ⟨Same.word y5 tg4, y5 _ _ hev4, L2.Paired.mapP hP4 fun _ _ z => Same.form y5 z, nf_hide c4.ls n5⟩
      clear y5 n5 x5 p5 tg4 hP4 hev4 c4
      have hfs : fs.length = Fs.length := Paired.length st5.evs
      -- handed
      refine ⟨_, rfl, _, rfl, ⟨_, SqL.of (hideT_sub _ _ st5.ev)⟩, fun D2 nD2 => ?_⟩
      have pD2 : p ≠ D2 := c5.pl.ne nD2
      refine lc_it (walk_list (K := K) (a := D) (xs := fs.map V.ref)) (fun m H' => Pl (Tof X) H H' [D2, p] p ∧ StT [D2, p] H' a D b fs tags Fs F ∧ ∃ (es : List Addr), H' D2 = some (.lst (es.map V.ref)) ∧ Paired (fun e G => EatAt X.c_Eater (hideT [D2, p] H') e tags G) es ((Fs.take m).map (least tags)))
        ⟨c5.grow (same_new nD2) nD2 ⟨_, upd_same⟩, st5.move (hideT_grow nD2 (same_new nD2)), [], upd_same, .nil⟩ (fun m H' _ h => SqL.of (hideT_sub _ _ h.2.1.ev)) ?_ ?_
      · rintro m x H6' H6 hm ⟨c6, st6, es, hD6, hE⟩ ⟨rfl, hx⟩
        rw [List.length_map] at hm
        have hmF : m < Fs.length := by omega
        obtain ⟨f, hf, hF⟩ := paired_get st6.evs (List.getElem?_eq_getElem hmF)
        have hx : (fs.map V.ref)[m]? = some x := hx
        rw [List.getElem?_map, hf] at hx
        cases hx
        have hFm : Fs[m] ∈ Fs := List.getElem_mem hmF
        have etk : Fs.take (m + 1) = Fs.take m ++ [Fs[m]] := by
          rw [List.take_succ, List.getElem?_eq_getElem hmF]
          rfl
        generalize Fs[m] = Fm at hF hFm etk
        have hel : es.length = m := by
          have := Paired.length hE
          rw [List.length_map, List.length_take] at this
          omega
        refine ⟨rfl, _, rfl, _, rfl, fun e dx he hd hne => ?_⟩
        have t6 := c6.ext.2 tb
        have sM : Same H6 (upd (upd H6 dx (.own e)) e (.ins X.c_Eater dx [])) := Same.new (same_new hd) ((upd_ne hne.symm).trans he)
        refine ⟨e, dx, a, f, tags, Fm, H6, rfl, upd_same, Same.word sM (Same.word hideT_sub st6.tg), Same.form sM (Same.form hideT_sub hF), to, hok Fm hFm, t6.ext sM, .of sM, .of he, fun a' b' L' H7 e7 t7 n7 => ⟨rfl, ?_⟩⟩
        have c7 := c6.exT e7
        have hD7 := e7.lst hD6
        have y7 : Same (hideT [D2, p] H6) (hideT [D2, p] H7) := hideT_ext e7
        have y8 : Same (hideT [D2, p] H7) (hideT [D2, p] (upd H7 D2 (.lst (es.map V.ref ++ [V.ref e])))) := hideT_put List.mem_cons_self
        refine ⟨_, hD7, by rw [List.length_map, hel]; exact sz_lt (by omega), c7.put List.mem_cons_self pD2, st6.move (y7.trans y8), es ++ [e], by rw [upd_same, List.map_append]; rfl, ?_⟩
        rw [etk, List.map_append]
        exact Paired.snoc (L2.Paired.mapP hE fun _ _ z => z.same (y7.trans y8)) ((ea_hide c6.ls n7).same y8)
      rintro H6 ⟨c6, st6, es, hD6, hE⟩
      rw [List.length_map, List.take_of_length_le (by omega)] at hE
      clear st5 c5 nD2
      -- reader
      refine ⟨_, rfl, _, rfl, fun re dx he hd hne => ?_⟩
      have t6 := c6.ext.2 tb
      have sM : Same H6 (upd (upd H6 dx (.own re)) re (.ins X.c_Eater dx [])) := Same.new (same_new hd) ((upd_ne hne.symm).trans he)
      refine ⟨re, dx, a, b, tags, F, H6, rfl, upd_same, Same.word sM (Same.word hideT_sub st6.tg), Same.form sM (Same.form hideT_sub st6.key), to, fo, t6.ext sM, .of sM, .of he, fun a' b' L' H7 e7 t7 n7 => ⟨rfl, ?_⟩⟩
      have c7 := c6.exT e7
      have hD7 := e7.lst hD6
      have st7 := st6.move (hideT_ext (M := [D2, p]) e7)
      have es7 : Paired (fun e G => EatAt X.c_Eater (hideT [D2, p] H7) e tags G) es (Fs.map (least tags)) := L2.Paired.mapP hE fun _ _ z => z.same (hideT_ext e7)
      have re7 := ea_hide c6.ls n7
      clear sM t6 he hd hne e7 t7 n7 hE st6 c6 hD6
      have gF : ∀ G ∈ Fs, Good tags G := fun G hG => (hok G hG).good
      have ok : BoxOk tags (Fs.map (least tags)) (least tags F) := by
        refine ⟨to, fun G hG => ?_, ⟨(fun h => least_good (FormOk.good h)) fo, least_wordsF to fo, fun s hs => ?_⟩, by rw [List.length_map]; omega, by rw [List.length_map]; omega⟩
        · obtain ⟨G', hG', rfl⟩ := List.mem_map.mp hG
          refine ⟨least_good (gF G' hG'), least_wordsF to (hok G' hG'), fun s hs => ?_⟩
          obtain ⟨s', h1, h2⟩ := least_word (gF G' hG') hs
          rw [h2]
          exact hlo G' hG' s' h1
        · obtain ⟨s', h1, h2⟩ := least_word fo.good hs
          rw [h2]
          exact fw s' h1
      have hK : ∀ wd : Word, (∀ t ∈ wd, t ∈ tags) → make tags (least tags F) wd = make tags F wd := fun wd h => least_make fo.good h
      have hG : ∀ j < (Fs.map (least tags)).length, ∀ wd : Word, (∀ t ∈ wd, t ∈ tags) → make tags ((Fs.map (least tags)).getD j []) wd = make tags (Fs.getD j []) wd := fun j hj wd h => by
        rw [List.length_map] at hj
        rw [show (Fs.map (least tags)).getD j [] = least tags (Fs.getD j []) from by rw [List.getD_eq_getElem?_getD, List.getElem?_map, List.getElem?_eq_getElem hj, List.getD_eq_getElem?_getD, List.getElem?_eq_getElem hj]; rfl]
        refine least_make (gF _ ?_) h
        rw [List.getD_eq_getElem?_getD, List.getElem?_eq_getElem hj]
        exact List.getElem_mem hj
      have fmF : FmOk tags F 100 := ⟨fo.good, fo.words to, fun s hs => by have := fw s hs; omega⟩
      have fmFs : ∀ G ∈ Fs, FmOk tags G 100 := fun G hG => ⟨gF G hG, (hok G hG).words to, fun s hs => by have := hlo G hG s hs; omega⟩
      have okw : OkWord tags := fun t ht => (to.names t ht).txt
      -- mailboxes
      refine ⟨_, rfl, _, rfl, fun m1 dx1 h1 h2 h3 => ?_⟩
      refine make_box h1 h2 h3 ⟨hD7, L2.Paired.mapP es7 fun _ _ z => z.same hideT_sub⟩ (re7.same hideT_sub) okw ok.pos ok.few fun pl1 ll1 H8 s8 nm1 np1 nl1 npl1 mll1 hm1 hp1 hl1 => ?_
      have y8 : Same (hideT [D2, p] H7) (hideT [ll1, D2, p] H8) := hideT_grow nl1 s8
      have c8 := c7.grow s8 nl1 ⟨_, hl1⟩
      have st8 := st7.move y8
      have es8 : Paired (fun e G => EatAt X.c_Eater (hideT [ll1, D2, p] H8) e tags G) es (Fs.map (least tags)) := L2.Paired.mapP es7 fun _ _ z => z.same y8
      have re8 := re7.same y8
      have hD8 := s8 _ _ hD7
      have r8 : Raw X.c_Mailbox [ll1, D2, p] H8 m1 ll1 re es := ⟨dx1, pl1, hideT_at (fun z => (List.mem_cons.mp z).elim mll1 fun y => c7.out nm1 y) hm1, hideT_at (fun z => (List.mem_cons.mp z).elim npl1 fun y => c7.out np1 y) hp1⟩
      have pl1' : p ≠ ll1 := c7.pl.ne nl1
      have l1D : ll1 ≠ D2 := (ne_of_none hD7 nl1).symm
      clear hm1 hp1 h1 h2 h3 y8 s8 nm1 np1 nl1 npl1 mll1 es7 re7 st7 hD7 c7
      refine ⟨_, rfl, _, rfl, fun m2 dx2 h1 h2 h3 => ?_⟩
      refine make_box h1 h2 h3 ⟨hD8, L2.Paired.mapP es8 fun _ _ z => z.same hideT_sub⟩ (re8.same hideT_sub) okw ok.pos ok.few fun pl2 ll2 H9 s9 nm2 np2 nl2 npl2 mll2 hm2 hp2 hl2 => ?_
      have y9 : Same (hideT [ll1, D2, p] H8) (hideT [ll2, ll1, D2, p] H9) := hideT_grow nl2 s9
      have c9 := c8.grow s9 nl2 ⟨_, hl2⟩
      have fx9 : Fix X.c_Eater X.c_Mailbox [ll2, ll1, D2, p] H9 a D b re m1 ll1 m2 ll2 fs es tags Fs F := ⟨st8.move y9, L2.Paired.mapP es8 fun _ _ z => z.same y9, re8.same y9, r8.move y9,
        ⟨dx2, pl2, hideT_at (fun z => (List.mem_cons.mp z).elim mll2 fun y => c8.out nm2 y) hm2, hideT_at (fun z => (List.mem_cons.mp z).elim npl2 fun y => c8.out np2 y) hp2⟩⟩
      have hD9 := s9 _ _ hD8
      have hl19 := s9 _ _ hl1
      have pl2' : p ≠ ll2 := c8.pl.ne nl2
      have l2D : ll2 ≠ D2 := (ne_of_none hD8 nl2).symm
      have l21 : ll2 ≠ ll1 := (ne_of_none hl1 nl2).symm
      clear hm2 hp2 h1 h2 h3 y9 s9 nm2 np2 nl2 npl2 mll2 es8 re8 st8 hD8 c8 hl1 r8
      refine ⟨_, _, rfl, ?_⟩
      -- cleared
      refine ⟨_, rfl, .inl ⟨rfl, _, SqL.of hD9⟩, D2, _, rfl, rfl, hD9, ?_⟩
      have mD : D2 ∈ [ll2, ll1, D2, p] := List.mem_cons_of_mem _ (List.mem_cons_of_mem _ List.mem_cons_self)
      have fx10 := fx9.move (hideT_put (o := .lst []) mD)
      have c10 : Pl (Tof X) H (upd H9 D2 (.lst [])) [ll2, ll1, D2, p] p := c9.put mD pD2
      have hl1a : (upd H9 D2 (.lst [])) ll1 = some (.lst []) := (upd_ne l1D).trans hl19
      have hl2a : (upd H9 D2 (.lst [])) ll2 = some (.lst []) := (upd_ne l2D).trans hl2
      generalize upd H9 D2 (.lst []) = H10 at fx10 c10 hl1a hl2a ⊢
      clear fx9 c9 hD9 hl19 hl2
      -- letters
      refine ⟨by show 0 ≤ sizeLine; decide, fun la1 n1 => ?_⟩
      have s11 : Same H10 (upd H10 la1 (.lst [])) := same_new n1
      have hla1 : (upd H10 la1 (.lst [])) la1 = some (.lst []) := upd_same
      generalize upd H10 la1 (.lst []) = H11 at s11 hla1 ⊢
      have c11 := c10.grow s11 n1 ⟨_, hla1⟩
      have fx11 := fx10.move (hideT_grow n1 s11)
      have pa1 : p ≠ la1 := c10.pl.ne n1
      have a1l1 : la1 ≠ ll1 := (ne_of_none hl1a n1).symm
      have a1l2 : la1 ≠ ll2 := (ne_of_none hl2a n1).symm
      have hl1b := s11 _ _ hl1a
      have hl2b := s11 _ _ hl2a
      clear hl1a hl2a fx10 c10 n1 s11
      -- others
      refine ⟨(3 : Int), rfl, by decide, by decide, fun la2 n2 => ?_⟩
      have pa2 : p ≠ la2 := c11.pl.ne n2
      have a2l1 : la2 ≠ ll1 := (ne_of_none hl1b n2).symm
      have a2l2 : la2 ≠ ll2 := (ne_of_none hl2b n2).symm
      have a21 : la2 ≠ la1 := (ne_of_none hla1 n2).symm
      obtain ⟨M, hM⟩ : ∃ M, M = [la2, la1, ll2, ll1, D2, p] := ⟨_, rfl⟩
      have mp : p ∈ M := by rw [hM]; simp
      have ma1 : la1 ∈ M := by rw [hM]; simp
      have ma2 : la2 ∈ M := by rw [hM]; simp
      have ml1 : ll1 ∈ M := by rw [hM]; simp
      have ml2 : ll2 ∈ M := by rw [hM]; simp
      have hpM : ∀ n ∈ [p], n ∈ M := fun n h => List.mem_singleton.mp h ▸ mp
      have hn1 : ∀ n ∈ [la2], n ∈ M := fun n h => List.mem_singleton.mp h ▸ ma2
      refine lc_it (walk_range (lo := 0) (n := 3)) (fun m H' => Pl (Tof X) H H' M p ∧ Fix X.c_Eater X.c_Mailbox M H' a D b re m1 ll1 m2 ll2 fs es tags Fs F ∧ H' ll1 = some (.lst []) ∧ H' ll2 = some (.lst []) ∧ H' la1 = some (.lst []) ∧ ∃ (as : List Addr) (ws : List Word), LetsAt M H' la2 as ws ∧ WsOk tags 4 ws ∧ ws.length = m)
        (by
          have s := same_new (o := .lst ([] : List V)) n2
          rw [hM]
          exact ⟨c11.grow s n2 ⟨_, upd_same⟩, fx11.move (hideT_grow n2 s), s _ _ hl1b, s _ _ hl2b, s _ _ hla1, [], [], ⟨upd_same, .nil, List.mem_cons_self⟩, (fun _ h => nomatch h), rfl⟩) (fun _ _ _ _ => True.intro) ?_ ?_
      · rintro m x H12 H13 hm ⟨c12, fx12, k1, k2, k3, as, ws, lt, wo, wl⟩ ⟨rfl, rfl⟩
        refine ⟨rfl, _, rfl, _, rfl, p, a, tags, 4, rfl, by decide, c12.pl, Same.word hideT_sub fx12.st.tg, to, fun wd c H14 sub hwl x14 p14 nc wc => ?_⟩
        have c14 := c12.draw x14 p14
        have fx14 := fx12.move (hideT_exc hpM x14)
        have lt14 := lt.exc hpM x14 (by simpa using pa2.symm)
        have cM : c ∉ M := fun z => c12.none c z nc
        refine ⟨_, lt14.lst, by rw [List.length_map, lt.len, wl]; exact sz_lt (by omega), c14.put ma2 pa2, fx14.move (hideT_put ma2), (upd_ne a2l1.symm).trans (x14 _ _ (by simpa using pl1'.symm) k1), (upd_ne a2l2.symm).trans (x14 _ _ (by simpa using pl2'.symm) k2), (upd_ne a21.symm).trans (x14 _ _ (by simpa using pa1.symm) k3), as ++ [c], ws ++ [wd], lt14.push wc cM, wo.snoc sub hwl, by rw [List.length_append, wl]; rfl⟩
      rintro H12 ⟨c12, fx12, k1, k2, k3, as2, ws2, lt2, wo2, wl2⟩
      have wl2 : ws2.length = 3 := wl2
      clear c11 fx11 hl1b hl2b hla1 n2
      have b1 := fx12.box1 k1 ml1
      have b2 := fx12.box2 k2 ml2
      have st : Stay M H12 p a D b fs tags Fs F := ⟨mp, Same.word hideT_hide fx12.st.tg, hideT_hide _ _ fx12.st.ev, L2.Paired.mapP fx12.st.evs fun _ _ z => Same.form hideT_hide z, Same.form hideT_hide fx12.st.key⟩
      have lt1 : LetsAt M H12 la1 [] [] := ⟨k3, .nil, ma1⟩
      clear fx12 k1 k2 k3
      have hL2 : ∀ n ∈ [ll2], n ∈ M := fun n h => List.mem_singleton.mp h ▸ ml2
      -- begun
      refine ⟨_, rfl, _, rfl, ⟨_, SqL.of lt2.lst⟩, ?_⟩
      refine for_it (walk_list (K := K) (a := la2) (xs := as2.map V.ref)) (fun j σ H' => ∃ v1 v4 v13 v14 v15 v16 v17 : Option V, σ = [some (.ref l), v1, some (.ref p), some (.ref a), v4, some (.ref D), some (.ref b), some (.ref D2), some (.ref re), some (.ref m1), some (.ref m2), some (.ref la1), some (.ref la2), v13, v14, v15, v16, v17] ∧ Pl (Tof X) H H' M p ∧ Stay M H' p a D b fs tags Fs F ∧ BoxAt X.c_Eater X.c_Mailbox M H' m1 ll1 tags (Fs.map (least tags)) (least tags F) [] ∧ LetsAt M H' la1 [] [] ∧ LetsAt M H' la2 as2 ws2 ∧ BoxAt X.c_Eater X.c_Mailbox M H' m2 ll2 tags (Fs.map (least tags)) (least tags F) (ws2.take j))
        ⟨_, _, _, _, _, _, _, rfl, c12, st, b1, lt1, lt2, b2⟩ (fun j σ H' _ ⟨_, _, _, _, _, _, _, _, _, _, _, _, z, _⟩ => SqL.of z.lst) ?_ ?_
      · clear c12 st b1 lt1 lt2 b2
        rintro j x σ H13 H14 hj ⟨v1, v4, v13, v14, v15, v16, v17, rfl, c13, st13, b13, lt13, lu13, bb13⟩ ⟨rfl, hx⟩
        rw [List.length_map, lu13.len] at hj
        obtain ⟨c, hc, hcw⟩ := lu13.get hj
        have hx : (as2.map V.ref)[j]? = some x := hx
        rw [List.getElem?_map, hc] at hx
        cases hx
        obtain ⟨dx, pl, ke, es', ts, bx⟩ := id bb13
        refine ⟨_, rfl, m2, dx, _, rfl, hide_sub _ _ bx.obj, rfl, ?_⟩
        clear bx
        have wj := wo2.get hj
        refine ⟨_, rfl, M, m2, ll2, c, tags, _, _, ws2.take j, ws2[j], rfl, bb13, ok, c13.none, hcw, wj.1, by omega, by rw [List.length_take]; omega, fun H15 b15 x15 n15 => ?_⟩
        have etk : ws2.take (j + 1) = ws2.take j ++ [ws2[j]] := by
          rw [List.take_succ, List.getElem?_eq_getElem hj]
          rfl
        rw [← etk] at b15
        have hl15 : ∃ xs, H15 ll2 = some (.lst xs) := by
          obtain ⟨_, _, _, _, _, bx⟩ := b15
          exact ⟨_, bx.lst⟩
        refine ⟨_, _, _, _, _, _, _, rfl, c13.exc hL2 x15 (fun n h => List.mem_singleton.mp h ▸ hl15) (c13.pl.exc x15 (by simpa using pl2')), st13.exc hL2 x15, b13.exc hL2 x15 (by simpa using l21.symm), lt13.exc hL2 x15 (by simpa using a1l2), lu13.exc hL2 x15 (by simpa using a2l2), b15⟩
      · clear c12 st b1 lt1 lt2 b2
        rintro σ H13 ⟨v1, v4, v13, v14, v15, v16, v17, rfl, c13, st13, b13, lt13, lu13, bb13⟩
        rw [List.length_map, lu13.len, List.take_length] at bb13
        -- boxes
        refine ⟨_, rfl, _, rfl, by show 2 ≤ sizeLine; decide, fun t1 nt1 => ?_⟩
        have s14 := same_new (o := .tup [V.ref m1, V.ref la1]) nt1
        have ht1 : hide M (upd H13 t1 (.tup [V.ref m1, V.ref la1])) t1 = some (.tup [V.ref m1, V.ref la1]) := hide_at (c13.out nt1) upd_same
        generalize upd H13 t1 (.tup [V.ref m1, V.ref la1]) = H14 at s14 ht1 ⊢
        have c14 := c13.same s14
        refine ⟨_, rfl, _, rfl, by show 2 ≤ sizeLine; decide, fun t2 nt2 => ?_⟩
        have s15 := same_new (o := .tup [V.ref m2, V.ref la2]) nt2
        have ht2 : hide M (upd H14 t2 (.tup [V.ref m2, V.ref la2])) t2 = some (.tup [V.ref m2, V.ref la2]) := hide_at (c14.out nt2) upd_same
        generalize upd H14 t2 (.tup [V.ref m2, V.ref la2]) = H15 at s15 ht2 ⊢
        have c15 := c14.same s15
        have ht1 := hide_same s15 _ _ ht1
        refine ⟨by show 2 ≤ sizeLine; decide, fun bl nbl => ?_⟩
        have s16 := same_new (o := .lst [V.ref t1, V.ref t2]) nbl
        have hbl : hide M (upd H15 bl (.lst [V.ref t1, V.ref t2])) bl = some (.lst [V.ref t1, V.ref t2]) := hide_at (c15.out nbl) upd_same
        generalize upd H15 bl (.lst [V.ref t1, V.ref t2]) = H16 at s16 hbl ⊢
        have c16 := c15.same s16
        have ht1 := hide_same s16 _ _ ht1
        have ht2 := hide_same s16 _ _ ht2
        have s36 := (s14.trans s15).trans s16
        have st16 := st13.exc (N := []) (fun _ h => nomatch h) (.of s36)
        have b16 := b13.same s36
        have lt16 := lt13.exc (N := []) (fun _ h => nomatch h) (.of s36) (fun h => nomatch h)
        have lu16 := lu13.exc (N := []) (fun _ h => nomatch h) (.of s36) (fun h => nomatch h)
        have bb16 := bb13.same s36
        clear s14 s15 s16 s36 st13 b13 lt13 lu13 bb13 c13 c14 c15 nt1 nt2 nbl
        refine ⟨_, rfl, p, 26, rfl, by decide, by decide, c16.pl, fun r26 H17 h26 x17 p17 => ?_⟩
        have c17 := c16.draw x17 p17
        have y17 : Same (hide M H16) (hide M H17) := hide_excL hpM x17
        have ht1 := y17 _ _ ht1
        have ht2 := y17 _ _ ht2
        have hbl := y17 _ _ hbl
        have st17 := st16.exc hpM x17
        have b17 := b16.exc hpM x17 (by simpa using pl1'.symm)
        have lt17 := lt16.exc hpM x17 (by simpa using pa1.symm)
        have lu17 := lu16.exc hpM x17 (by simpa using pa2.symm)
        have bb17 := bb16.exc hpM x17 (by simpa using pl2'.symm)
        clear st16 b16 lt16 lu16 bb16 c16 x17 p17 y17
        refine ⟨(r26 : Int), rfl, by omega, by omega, ?_⟩
        refine for_it (walk_range (lo := 0) (n := ((r26 : Nat) : Int).toNat)) (fun j σ H' => ∃ (v1 v4 v13 v15 v16 v17 : Option V) (as1 as2 : List Addr) (ws1 ws2 : List Word), σ = [some (.ref l), v1, some (.ref p), some (.ref a), v4, some (.ref D), some (.ref b), some (.ref D2), some (.ref re), some (.ref m1), some (.ref m2), some (.ref la1), some (.ref la2), v13, some (.ref bl), v15, v16, v17] ∧ Pl (Tof X) H H' M p ∧ Stay M H' p a D b fs tags Fs F ∧ BoxAt X.c_Eater X.c_Mailbox M H' m1 ll1 tags (Fs.map (least tags)) (least tags F) ws1 ∧ LetsAt M H' la1 as1 ws1 ∧ BoxAt X.c_Eater X.c_Mailbox M H' m2 ll2 tags (Fs.map (least tags)) (least tags F) ws2 ∧ LetsAt M H' la2 as2 ws2 ∧
            WsOk tags (4 + 2 * j) ws1 ∧ WsOk tags (4 + 2 * j) ws2 ∧ ws1.length ≤ 3 + j ∧ ws2.length ≤ 3 + j ∧ hide M H' t1 = some (.tup [V.ref m1, V.ref la1]) ∧ hide M H' t2 = some (.tup [V.ref m2, V.ref la2]) ∧ hide M H' bl = some (.lst [V.ref t1, V.ref t2]))
          ⟨_, _, _, _, _, _, [], as2, [], ws2, rfl, c17, st17, b17, lt17, bb17, lu17, (fun _ h => nomatch h), wo2, by show 0 ≤ _; omega, by omega, ht1, ht2, hbl⟩ (fun _ _ _ _ _ => True.intro) ?_ ?_
        · clear c17 st17 b17 lt17 bb17 lu17 ht1 ht2 hbl wo2 wl2
          clear v1 v4 v13 v14 v15 v16 v17
          rintro j x σ H18' H18 hj ⟨v1, v4, v13, v15, v16, v17, as1, as2, ws1, ws2, rfl, c18, st18, b18, lt18, bb18, lu18, wo1, wo2, wl1, wl2, ht1, ht2, hbl⟩ ⟨rfl, rfl⟩
          have hj : j < r26 := by omega
          refine ⟨_, rfl, by show 3 ≤ sizeLine; decide, fun q3 nq3 => ?_⟩
          have s19 := same_new (o := .lst [V.int 0, V.int 0, V.int 1]) nq3
          have hq3 : hide M (upd H18 q3 (.lst [V.int 0, V.int 0, V.int 1])) q3 = some (.lst [V.int 0, V.int 0, V.int 1]) := hide_at (c18.out nq3) upd_same
          generalize upd H18 q3 (.lst [V.int 0, V.int 0, V.int 1]) = H19 at s19 hq3 ⊢
          have c19 := c18.same s19
          refine ⟨_, rfl, p, 3, rfl, by decide, by decide, c19.pl, fun r3 H20 hr3 x20 p20 => ?_⟩
          have c20 := c19.draw x20 p20
          have x18 : Exc [p] H18 H20 := (Exc.of s19).trans x20
          have y20 := hide_excL hpM x18
          have hq3 := hide_excL hpM x20 _ _ hq3
          have ht1 := y20 _ _ ht1
          have ht2 := y20 _ _ ht2
          have hbl := y20 _ _ hbl
          have st20 := st18.exc hpM x18
          have b20 := b18.exc hpM x18 (by simpa using pl1'.symm)
          have lt20 := lt18.exc hpM x18 (by simpa using pa1.symm)
          have lu20 := lu18.exc hpM x18 (by simpa using pa2.symm)
          have bb20 := bb18.exc hpM x18 (by simpa using pl2'.symm)
          clear st18 b18 lt18 lu18 bb18 c18 c19 x18 x20 s19 y20 nq3
          have hfl : Fs.length = (Fs.map (least tags)).length := (List.length_map _).symm
          have wz1 : WsOk tags 100 ws1 := wo1.mono (by omega)
          have wz2 : WsOk tags 100 ws2 := wo2.mono (by omega)
          by_cases h2 : r3 < 2
          · refine ⟨q3, _, _, V.int 0, rfl, rfl, SqL.of (hide_sub _ _ hq3), atI_nat (by rcases (by omega : r3 = 0 ∨ r3 = 1) with rfl | rfl <;> rfl), ?_⟩
            refine ⟨bl, _, _, V.ref t1, rfl, rfl, SqL.of (hide_sub _ _ hbl), rfl, ?_⟩
            refine ⟨t1, _, rfl, SqT.of (hide_sub _ _ ht1), rfl, _, _, rfl, _, _, rfl, rfl, ?_⟩

            have hN : ∀ n ∈ [p, ll1, la1], n ∈ M := by
              intro n h
              rcases List.mem_cons.mp h with rfl | h
              · exact mp
              · rcases List.mem_cons.mp h with rfl | h
                · exact ml1
                · exact List.mem_singleton.mp h ▸ ma1
            refine ⟨_, rfl, _, rfl, _, rfl, _, rfl, _, rfl, _, rfl, M, p, m1, ll1, a, D, b, la1, _, fs, tags, _, Fs, _, F, _, 4 + 2 * j, rfl, b20, ok, st20, lt20, c20.pl, c20.none, ml1, pl1', pa1, a1l1.symm, fmF, fmFs, hfl, hK, hG, wo1, by omega, by omega, by omega, fun H21 ws' as' x21 p21 n21 b21 lt21 wo21 wl21 => ?_⟩
            refine ⟨_, rfl, iteF ?_⟩
            have hl21 : ∃ xs, H21 ll1 = some (.lst xs) := by
              obtain ⟨_, _, _, _, _, bx⟩ := b21
              exact ⟨_, bx.lst⟩
            have c21 := c20.exc hN x21 (fun n h => by
              rcases List.mem_cons.mp h with rfl | h
              · obtain ⟨_, _, _, z⟩ := p21
                exact ⟨_, z⟩
              · rcases List.mem_cons.mp h with rfl | h
                · exact hl21
                · exact List.mem_singleton.mp h ▸ ⟨_, lt21.lst⟩) p21
            have y21 := hide_excL hN x21
            have ht1 := y21 _ _ ht1
            have ht2 := y21 _ _ ht2
            have hbl := y21 _ _ hbl
            have st21 := st20.exc hN x21
            have bb20 := bb20.exc hN x21 (by simp [pl2'.symm, l21, a1l2.symm])
            have lu20 := lu20.exc hN x21 (by simp [pa2.symm, a2l1, a21])
            have wn21 : WsOk tags 100 ws' := wo21.mono (by omega)
            refine ⟨_, rfl, _, rfl, _, rfl, _, rfl, M, m1, ll1, a, b, la1, _, tags, _, _, F, _, rfl, b21, ok, Same.word hide_sub st21.tg, Same.form hide_sub st21.key, lt21.lst, L2.Paired.mapP lt21.all fun _ _ z => Same.word hide_sub z, fmF, wn21, by omega, hK, fun H22 s22 => ?_⟩
            refine ⟨_, rfl, iteF ?_⟩
            refine ⟨_, rfl, _, rfl, _, rfl, _, rfl, M, m2, ll2, a, b, la2, _, tags, _, _, F, _, rfl, (bb20).same s22, ok, Same.word s22 (Same.word hide_sub st21.tg), Same.form s22 (Same.form hide_sub st21.key), s22 _ _ lu20.lst, L2.Paired.mapP lu20.all fun _ _ z => Same.word s22 (Same.word hide_sub z), fmF, wz2, by omega, hK, fun H23 s23 => ?_⟩
            refine ⟨_, rfl, iteF ?_⟩
            have s13 := s22.trans s23
            have z13 := hide_same (M := M) s13
            have n0 : ∀ n ∈ ([] : List Addr), n ∈ M := fun _ h => nomatch h
            exact ⟨_, _, _, _, _, _, _, _, _, _, rfl, c21.same s13, st21.exc n0 (.of s13), (b21).same s13, (lt21).exc n0 (.of s13) (fun h => nomatch h), (bb20).same s13, (lu20).exc n0 (.of s13) (fun h => nomatch h), wo21.mono (by omega), wo2.mono (by omega), by omega, by omega, z13 _ _ ht1, z13 _ _ ht2, z13 _ _ hbl⟩
          · refine ⟨q3, _, _, V.int 1, rfl, rfl, SqL.of (hide_sub _ _ hq3), atI_nat (by obtain rfl : r3 = 2 := by omega
                                                                                        rfl), ?_⟩
            refine ⟨bl, _, _, V.ref t2, rfl, rfl, SqL.of (hide_sub _ _ hbl), rfl, ?_⟩
            refine ⟨t2, _, rfl, SqT.of (hide_sub _ _ ht2), rfl, _, _, rfl, _, _, rfl, rfl, ?_⟩

            have hN : ∀ n ∈ [p, ll2, la2], n ∈ M := by
              intro n h
              rcases List.mem_cons.mp h with rfl | h
              · exact mp
              · rcases List.mem_cons.mp h with rfl | h
                · exact ml2
                · exact List.mem_singleton.mp h ▸ ma2
            refine ⟨_, rfl, _, rfl, _, rfl, _, rfl, _, rfl, _, rfl, M, p, m2, ll2, a, D, b, la2, _, fs, tags, _, Fs, _, F, _, 4 + 2 * j, rfl, bb20, ok, st20, lu20, c20.pl, c20.none, ml2, pl2', pa2, a2l2.symm, fmF, fmFs, hfl, hK, hG, wo2, by omega, by omega, by omega, fun H21 ws' as' x21 p21 n21 b21 lt21 wo21 wl21 => ?_⟩
            refine ⟨_, rfl, iteF ?_⟩
            have hl21 : ∃ xs, H21 ll2 = some (.lst xs) := by
              obtain ⟨_, _, _, _, _, bx⟩ := b21
              exact ⟨_, bx.lst⟩
            have c21 := c20.exc hN x21 (fun n h => by
              rcases List.mem_cons.mp h with rfl | h
              · obtain ⟨_, _, _, z⟩ := p21
                exact ⟨_, z⟩
              · rcases List.mem_cons.mp h with rfl | h
                · exact hl21
                · exact List.mem_singleton.mp h ▸ ⟨_, lt21.lst⟩) p21
            have y21 := hide_excL hN x21
            have ht1 := y21 _ _ ht1
            have ht2 := y21 _ _ ht2
            have hbl := y21 _ _ hbl
            have st21 := st20.exc hN x21
            have b20 := b20.exc hN x21 (by simp [pl1'.symm, l21.symm, a2l1.symm])
            have lt20 := lt20.exc hN x21 (by simp [pa1.symm, a1l2, a21.symm])
            have wn21 : WsOk tags 100 ws' := wo21.mono (by omega)
            refine ⟨_, rfl, _, rfl, _, rfl, _, rfl, M, m1, ll1, a, b, la1, _, tags, _, _, F, _, rfl, b20, ok, Same.word hide_sub st21.tg, Same.form hide_sub st21.key, lt20.lst, L2.Paired.mapP lt20.all fun _ _ z => Same.word hide_sub z, fmF, wz1, by omega, hK, fun H22 s22 => ?_⟩
            refine ⟨_, rfl, iteF ?_⟩
            refine ⟨_, rfl, _, rfl, _, rfl, _, rfl, M, m2, ll2, a, b, la2, _, tags, _, _, F, _, rfl, (b21).same s22, ok, Same.word s22 (Same.word hide_sub st21.tg), Same.form s22 (Same.form hide_sub st21.key), s22 _ _ lt21.lst, L2.Paired.mapP lt21.all fun _ _ z => Same.word s22 (Same.word hide_sub z), fmF, wn21, by omega, hK, fun H23 s23 => ?_⟩
            refine ⟨_, rfl, iteF ?_⟩
            have s13 := s22.trans s23
            have z13 := hide_same (M := M) s13
            have n0 : ∀ n ∈ ([] : List Addr), n ∈ M := fun _ h => nomatch h
            exact ⟨_, _, _, _, _, _, _, _, _, _, rfl, c21.same s13, st21.exc n0 (.of s13), (b20).same s13, (lt20).exc n0 (.of s13) (fun h => nomatch h), (b21).same s13, (lt21).exc n0 (.of s13) (fun h => nomatch h), wo1.mono (by omega), wo21.mono (by omega), by omega, by omega, z13 _ _ ht1, z13 _ _ ht2, z13 _ _ hbl⟩
        · clear v1 v4 v13 v14 v15 v16 v17
          rintro σ H18 ⟨v1, v4, v13, v15, v16, v17, as1, as2, ws1, ws2, rfl, c18, _⟩
          exact ⟨_, _, _, _, _, _, _, _, _, _, _, _, _, _, _, _, _, rfl, c18.ext⟩
    · rintro σ H2 ⟨v1, v2, v3, v4, v5, v6, v7, v8, v9, v10, v11, v12, v13, v14, v15, v16, v17, rfl, e1⟩
      exact q H2
end
end Law
end

section
set_option Elab.async false
set_option linter.all false
set_option maxRecDepth 100000
set_option maxHeartbeats 0
namespace Law
open PySem PySem.Spec PyProof.Rows L2 LamX QB QM
def dds : List He.DefD := [⟨("_wall", none), "_wall", "_wall", defArgs s__wall, defBody s__wall, defScope s__wall, [], []⟩,
  ⟨("is_number", none), "is_number", "is_number", defArgs s_is_number, defBody s_is_number, defScope s_is_number, [], []⟩,
  ⟨("is_list", none), "is_list", "is_list", defArgs s_is_list, defBody s_is_list, defScope s_is_list, [], []⟩,
  ⟨("is_name", none), "is_name", "is_name", defArgs s_is_name, defBody s_is_name, defScope s_is_name, [], []⟩,
  ⟨("is_tag", none), "is_tag", "is_tag", defArgs s_is_tag, defBody s_is_tag, defScope s_is_tag, [], []⟩,
  ⟨("is_subject", none), "is_subject", "is_subject", defArgs s_is_subject, defBody s_is_subject, defScope s_is_subject, [], []⟩,
  ⟨("is_standing", none), "is_standing", "is_standing", defArgs s_is_standing, defBody s_is_standing, defScope s_is_standing, [], []⟩,
  ⟨("check_tags", none), "check_tags", "check_tags", defArgs s_check_tags, defBody s_check_tags, defScope s_check_tags, [], []⟩,
  ⟨("check_word", none), "check_word", "check_word", defArgs s_check_word, defBody s_check_word, defScope s_check_word, [], []⟩,
  ⟨("check_standings", none), "check_standings", "check_standings", defArgs s_check_standings, defBody s_check_standings, defScope s_check_standings, [], []⟩,
  ⟨("check_number", none), "check_number", "check_number", defArgs s_check_number, defBody s_check_number, defScope s_check_number, [], []⟩,
  ⟨("walked", none), "walked", "walked", defArgs s_walked, defBody s_walked, defScope s_walked, [], []⟩,
  ⟨("made", none), "made", "made", defArgs s_made, defBody s_made, defScope s_made, [], []⟩,
  ⟨("is_settled_at", none), "is_settled_at", "is_settled_at", defArgs s_is_settled_at, defBody s_is_settled_at, defScope s_is_settled_at, [], []⟩,
  ⟨("is_made_at", none), "is_made_at", "is_made_at", defArgs s_is_made_at, defBody s_is_made_at, defScope s_is_made_at, [], []⟩,
  ⟨("copied", none), "copied", "copied", defArgs s_copied, defBody s_copied, defScope s_copied, [], []⟩,
  ⟨("without_needless_ways", none), "without_needless_ways", "without_needless_ways", defArgs s_without_needless_ways, defBody s_without_needless_ways, defScope s_without_needless_ways, [], []⟩,
  ⟨("numbered", none), "numbered", "numbered", defArgs s_numbered, defBody s_numbered, defScope s_numbered, [], []⟩,
  ⟨("parted", none), "parted", "parted", defArgs s_parted, defBody s_parted, defScope s_parted, [], []⟩,
  ⟨("alike_classes", none), "alike_classes", "alike_classes", defArgs s_alike_classes, defBody s_alike_classes, defScope s_alike_classes, [], []⟩,
  ⟨("in_order_met", none), "in_order_met", "in_order_met", defArgs s_in_order_met, defBody s_in_order_met, defScope s_in_order_met, [], []⟩,
  ⟨("least_form", none), "least_form", "least_form", defArgs s_least_form, defBody s_least_form, defScope s_least_form, [], []⟩,
  ⟨("check_same_tags", none), "check_same_tags", "check_same_tags", defArgs s_check_same_tags, defBody s_check_same_tags, defScope s_check_same_tags, [], []⟩,
  ⟨("check_programs", none), "check_programs", "check_programs", defArgs s_check_programs, defBody s_check_programs, defScope s_check_programs, [], []⟩,
  ⟨("_law_mixed", none), "_law_mixed", "_law_mixed", defArgs s__law_mixed, defBody s__law_mixed, defScope s__law_mixed, [], []⟩,
  ⟨("_law_pile", none), "_law_pile", "_law_pile", defArgs s__law_pile, defBody s__law_pile, defScope s__law_pile, [], []⟩,
  ⟨("_law_take", none), "_law_take", "_law_take", defArgs s__law_take, defBody s__law_take, defScope s__law_take, [], []⟩,
  ⟨("_law_order", none), "_law_order", "_law_order", defArgs s__law_order, defBody s__law_order, defScope s__law_order, [], []⟩,
  ⟨("_law_tags", none), "_law_tags", "_law_tags", defArgs s__law_tags, defBody s__law_tags, defScope s__law_tags, [], []⟩,
  ⟨("_law_word", none), "_law_word", "_law_word", defArgs s__law_word, defBody s__law_word, defScope s__law_word, [], []⟩,
  ⟨("_law_standings", none), "_law_standings", "_law_standings", defArgs s__law_standings, defBody s__law_standings, defScope s__law_standings, [], []⟩,
  ⟨("_law_eaten", none), "_law_eaten", "_law_eaten", defArgs s__law_eaten, defBody s__law_eaten, defScope s__law_eaten, [], []⟩,
  ⟨("_law_row_done", none), "_law_row_done", "_law_row_done", defArgs s__law_row_done, defBody s__law_row_done, defScope s__law_row_done, [], []⟩,
  ⟨("_law_talks", none), "_law_talks", "_law_talks", defArgs s__law_talks, defBody s__law_talks, defScope s__law_talks, [], []⟩,
  ⟨("_law_undone", none), "_law_undone", "_law_undone", defArgs s__law_undone, defBody s__law_undone, defScope s__law_undone, [], []⟩,
  ⟨("_law_box_right", none), "_law_box_right", "_law_box_right", defArgs s__law_box_right, defBody s__law_box_right, defScope s__law_box_right, [], []⟩,
  ⟨("_law_deed_right", none), "_law_deed_right", "_law_deed_right", defArgs s__law_deed_right, defBody s__law_deed_right, defScope s__law_deed_right, [], []⟩,
  ⟨("law", none), "law", "law", defArgs s_law, defBody s_law, defScope s_law, [], []⟩,
  ⟨("InvalidTags", some "__init__"), "__init__", "InvalidTags.__init__", defArgs s_InvalidTags___init__, defBody s_InvalidTags___init__, defScope s_InvalidTags___init__, [], []⟩,
  ⟨("InvalidSubject", some "__init__"), "__init__", "InvalidSubject.__init__", defArgs s_InvalidSubject___init__, defBody s_InvalidSubject___init__, defScope s_InvalidSubject___init__, [], []⟩,
  ⟨("InvalidEater", some "__init__"), "__init__", "InvalidEater.__init__", defArgs s_InvalidEater___init__, defBody s_InvalidEater___init__, defScope s_InvalidEater___init__, [], []⟩,
  ⟨("InvalidNumber", some "__init__"), "__init__", "InvalidNumber.__init__", defArgs s_InvalidNumber___init__, defBody s_InvalidNumber___init__, defScope s_InvalidNumber___init__, [], []⟩,
  ⟨("InvalidPrograms", some "__init__"), "__init__", "InvalidPrograms.__init__", defArgs s_InvalidPrograms___init__, defBody s_InvalidPrograms___init__, defScope s_InvalidPrograms___init__, [], []⟩,
  ⟨("TooMany", some "__init__"), "__init__", "TooMany.__init__", defArgs s_TooMany___init__, defBody s_TooMany___init__, defScope s_TooMany___init__, [], []⟩,
  ⟨("Eater", some "__init__"), "__init__", "Eater.__init__", defArgs s_Eater___init__, defBody s_Eater___init__, defScope s_Eater___init__, [], []⟩,
  ⟨("Eater", some "__len__"), "__len__", "Eater.__len__", defArgs s_Eater___len__, defBody s_Eater___len__, defScope s_Eater___len__, [], []⟩,
  ⟨("Eater", some "__eq__"), "__eq__", "Eater.__eq__", defArgs s_Eater___eq__, defBody s_Eater___eq__, defScope s_Eater___eq__, [], []⟩,
  ⟨("Eater", some "__contains__"), "__contains__", "Eater.__contains__", defArgs s_Eater___contains__, defBody s_Eater___contains__, defScope s_Eater___contains__, [], []⟩,
  ⟨("Eater", some "tags"), "tags", "Eater.tags", defArgs s_Eater_tags, defBody s_Eater_tags, defScope s_Eater_tags, [], []⟩,
  ⟨("Eater", some "standings"), "standings", "Eater.standings", defArgs s_Eater_standings, defBody s_Eater_standings, defScope s_Eater_standings, [], []⟩,
  ⟨("Eater", some "on"), "on", "Eater.on", defArgs s_Eater_on, defBody s_Eater_on, defScope s_Eater_on, [], []⟩,
  ⟨("Eater", some "settled"), "settled", "Eater.settled", defArgs s_Eater_settled, defBody s_Eater_settled, defScope s_Eater_settled, [], []⟩,
  ⟨("Eater", some "then"), "then", "Eater.then", defArgs s_Eater_then, defBody s_Eater_then, defScope s_Eater_then, [], []⟩,
  ⟨("Eater", some "power"), "power", "Eater.power", defArgs s_Eater_power, defBody s_Eater_power, defScope s_Eater_power, [], []⟩,
  ⟨("Mailbox", some "__init__"), "__init__", "Mailbox.__init__", defArgs s_Mailbox___init__, defBody s_Mailbox___init__, defScope s_Mailbox___init__, [], []⟩,
  ⟨("Mailbox", some "__len__"), "__len__", "Mailbox.__len__", defArgs s_Mailbox___len__, defBody s_Mailbox___len__, defScope s_Mailbox___len__, [], []⟩,
  ⟨("Mailbox", some "__getitem__"), "__getitem__", "Mailbox.__getitem__", defArgs s_Mailbox___getitem__, defBody s_Mailbox___getitem__, defScope s_Mailbox___getitem__, [], []⟩,
  ⟨("Mailbox", some "__iter__"), "__iter__", "Mailbox.__iter__", defArgs s_Mailbox___iter__, defBody s_Mailbox___iter__, defScope s_Mailbox___iter__, [], []⟩,
  ⟨("Mailbox", some "begin"), "begin", "Mailbox.begin", defArgs s_Mailbox_begin, defBody s_Mailbox_begin, defScope s_Mailbox_begin, [], []⟩,
  ⟨("Mailbox", some "answer"), "answer", "Mailbox.answer", defArgs s_Mailbox_answer, defBody s_Mailbox_answer, defScope s_Mailbox_answer, [], []⟩,
  ⟨("Mailbox", some "key_of"), "key_of", "Mailbox.key_of", defArgs s_Mailbox_key_of, defBody s_Mailbox_key_of, defScope s_Mailbox_key_of, [], []⟩,
  ⟨("Mailbox", some "talk"), "talk", "Mailbox.talk", defArgs s_Mailbox_talk, defBody s_Mailbox_talk, defScope s_Mailbox_talk, [], []⟩,
  ⟨("Mailbox", some "talks"), "talks", "Mailbox.talks", defArgs s_Mailbox_talks, defBody s_Mailbox_talks, defScope s_Mailbox_talks, [], []⟩,
  ⟨("Mailbox", some "tried"), "tried", "Mailbox.tried", defArgs s_Mailbox_tried, defBody s_Mailbox_tried, defScope s_Mailbox_tried, [], []⟩,
  ⟨("Mailbox", some "undo"), "undo", "Mailbox.undo", defArgs s_Mailbox_undo, defBody s_Mailbox_undo, defScope s_Mailbox_undo, [], []⟩,
  ⟨("Mailbox", some "trial"), "trial", "Mailbox.trial", defArgs s_Mailbox_trial, defBody s_Mailbox_trial, defScope s_Mailbox_trial, [], []⟩,
  ⟨("Mailbox", some "_come"), "_come", "Mailbox._come", defArgs s_Mailbox__come, defBody s_Mailbox__come, defScope s_Mailbox__come, [], []⟩,
  ⟨("Mailbox", some "_answered"), "_answered", "Mailbox._answered", defArgs s_Mailbox__answered, defBody s_Mailbox__answered, defScope s_Mailbox__answered, [], []⟩,
  ⟨("Mailbox", some "_with_key"), "_with_key", "Mailbox._with_key", defArgs s_Mailbox__with_key, defBody s_Mailbox__with_key, defScope s_Mailbox__with_key, [], []⟩]
def fas : List He.Fa := [.free "TypeError", .free "abs", .free "all", .free "any", .free "bool", .free "enumerate", .free "int", .free "isinstance", .free "len", .free "list", .free "max", .free "range", .free "sorted", .free "str", .free "tuple", .free "zip", .str "LETTERS" "abcdefghijklmnopqrstuvwxyz", .int "MOST_LETTERS" 8, .int "MOST_TAGS" 6, .int "MOST_STANDINGS" 30, .int "LONGEST_WORD" 8, .int "LONGEST_SUBJECT" 200, .int "MOST_PROGRAMS" 6, .glo "_wall", .glo "is_number", .glo "is_list", .glo "is_name", .glo "is_tag", .glo "is_subject", .glo "is_standing", .glo "check_tags", .glo "check_word", .glo "check_standings", .glo "check_number", .glo "walked", .glo "made", .glo "is_settled_at", .glo "is_made_at", .glo "copied", .glo "without_needless_ways", .glo "numbered", .glo "parted", .glo "alike_classes", .glo "in_order_met", .glo "least_form", .glo "check_same_tags", .glo "check_programs", .glo "_law_mixed", .glo "_law_pile", .glo "_law_take", .glo "_law_order", .glo "_law_tags", .glo "_law_word", .glo "_law_standings", .glo "_law_eaten", .glo "_law_row_done", .glo "_law_talks", .glo "_law_undone", .glo "_law_box_right", .glo "_law_deed_right", .glo "law", .glo "TagError", .glo "InvalidTags", .glo "InvalidSubject", .glo "InvalidEater", .glo "InvalidNumber", .glo "InvalidPrograms", .glo "UnlikeTags", .glo "NothingToUndo", .glo "TooMany", .glo "Eater", .cls "Eater", .meth "Eater" "__len__", .meth "Eater" "__eq__", .meth "Eater" "__contains__", .meth "Eater" "tags", .meth "Eater" "standings", .meth "Eater" "on", .meth "Eater" "settled", .meth "Eater" "then", .meth "Eater" "power", .mkr "Eater", .noat "Eater" "_standings", .noat "Eater" "_tags", .glo "Mailbox", .cls "Mailbox", .meth "Mailbox" "__len__", .meth "Mailbox" "__getitem__", .meth "Mailbox" "__iter__", .meth "Mailbox" "begin", .meth "Mailbox" "answer", .meth "Mailbox" "key_of", .meth "Mailbox" "talk", .meth "Mailbox" "talks", .meth "Mailbox" "tried", .meth "Mailbox" "undo", .meth "Mailbox" "trial", .meth "Mailbox" "_come", .meth "Mailbox" "_answered", .meth "Mailbox" "_with_key", .mkr "Mailbox", .noat "Mailbox" "_key", .noat "Mailbox" "_letters", .noat "Mailbox" "_programs"]
def exB (K : PySem.W.Frag) : Bool := QE.ownB K (He.ga K "Eater") && (QX.excTB K (He.ga K "InvalidTags") (He.fAd K ("InvalidTags", some "__init__")) "index" && (QX.excTB K (He.ga K "InvalidSubject") (He.fAd K ("InvalidSubject", some "__init__")) "index" && (QX.excTB K (He.ga K "InvalidEater") (He.fAd K ("InvalidEater", some "__init__")) "index" && (QX.excTB K (He.ga K "InvalidNumber") (He.fAd K ("InvalidNumber", some "__init__")) "number" && (QX.excTB K (He.ga K "InvalidPrograms") (He.fAd K ("InvalidPrograms", some "__init__")) "index" && (QX.excTB K (He.ga K "TooMany") (He.fAd K ("TooMany", some "__init__")) "limit" && (QX.exmB K (He.ga K "InvalidTags") (He.ga K "TagError") && (QX.isTB K (He.ga K "InvalidTags") "ValueError" true && (QX.isB K (He.ga K "InvalidTags") (He.ga K "TagError") true && (QX.isB K (He.ga K "InvalidTags") (He.ga K "InvalidTags") true && (QX.isB K (He.ga K "InvalidTags") (He.ga K "InvalidSubject") false && (QX.isB K (He.ga K "InvalidTags") (He.ga K "InvalidEater") false && (QX.isB K (He.ga K "InvalidTags") (He.ga K "InvalidNumber") false && (QX.isB K (He.ga K "InvalidTags") (He.ga K "InvalidPrograms") false && (QX.isB K (He.ga K "InvalidTags") (He.ga K "UnlikeTags") false && (QX.isB K (He.ga K "InvalidTags") (He.ga K "NothingToUndo") false && (QX.isB K (He.ga K "InvalidTags") (He.ga K "TooMany") false && (QX.exmB K (He.ga K "InvalidSubject") (He.ga K "TagError") && (QX.isTB K (He.ga K "InvalidSubject") "ValueError" true && (QX.isB K (He.ga K "InvalidSubject") (He.ga K "TagError") true && (QX.isB K (He.ga K "InvalidSubject") (He.ga K "InvalidTags") false && (QX.isB K (He.ga K "InvalidSubject") (He.ga K "InvalidSubject") true && (QX.isB K (He.ga K "InvalidSubject") (He.ga K "InvalidEater") false && (QX.isB K (He.ga K "InvalidSubject") (He.ga K "InvalidNumber") false && (QX.isB K (He.ga K "InvalidSubject") (He.ga K "InvalidPrograms") false && (QX.isB K (He.ga K "InvalidSubject") (He.ga K "UnlikeTags") false && (QX.isB K (He.ga K "InvalidSubject") (He.ga K "NothingToUndo") false && (QX.isB K (He.ga K "InvalidSubject") (He.ga K "TooMany") false && (QX.exmB K (He.ga K "InvalidEater") (He.ga K "TagError") && (QX.isTB K (He.ga K "InvalidEater") "ValueError" true && (QX.isB K (He.ga K "InvalidEater") (He.ga K "TagError") true && (QX.isB K (He.ga K "InvalidEater") (He.ga K "InvalidTags") false && (QX.isB K (He.ga K "InvalidEater") (He.ga K "InvalidSubject") false && (QX.isB K (He.ga K "InvalidEater") (He.ga K "InvalidEater") true && (QX.isB K (He.ga K "InvalidEater") (He.ga K "InvalidNumber") false && (QX.isB K (He.ga K "InvalidEater") (He.ga K "InvalidPrograms") false && (QX.isB K (He.ga K "InvalidEater") (He.ga K "UnlikeTags") false && (QX.isB K (He.ga K "InvalidEater") (He.ga K "NothingToUndo") false && (QX.isB K (He.ga K "InvalidEater") (He.ga K "TooMany") false && (QX.exmB K (He.ga K "InvalidNumber") (He.ga K "TagError") && (QX.isTB K (He.ga K "InvalidNumber") "ValueError" true && (QX.isB K (He.ga K "InvalidNumber") (He.ga K "TagError") true && (QX.isB K (He.ga K "InvalidNumber") (He.ga K "InvalidTags") false && (QX.isB K (He.ga K "InvalidNumber") (He.ga K "InvalidSubject") false && (QX.isB K (He.ga K "InvalidNumber") (He.ga K "InvalidEater") false && (QX.isB K (He.ga K "InvalidNumber") (He.ga K "InvalidNumber") true && (QX.isB K (He.ga K "InvalidNumber") (He.ga K "InvalidPrograms") false && (QX.isB K (He.ga K "InvalidNumber") (He.ga K "UnlikeTags") false && (QX.isB K (He.ga K "InvalidNumber") (He.ga K "NothingToUndo") false && (QX.isB K (He.ga K "InvalidNumber") (He.ga K "TooMany") false && (QX.exmB K (He.ga K "InvalidPrograms") (He.ga K "TagError") && (QX.isTB K (He.ga K "InvalidPrograms") "ValueError" true && (QX.isB K (He.ga K "InvalidPrograms") (He.ga K "TagError") true && (QX.isB K (He.ga K "InvalidPrograms") (He.ga K "InvalidTags") false && (QX.isB K (He.ga K "InvalidPrograms") (He.ga K "InvalidSubject") false && (QX.isB K (He.ga K "InvalidPrograms") (He.ga K "InvalidEater") false && (QX.isB K (He.ga K "InvalidPrograms") (He.ga K "InvalidNumber") false && (QX.isB K (He.ga K "InvalidPrograms") (He.ga K "InvalidPrograms") true && (QX.isB K (He.ga K "InvalidPrograms") (He.ga K "UnlikeTags") false && (QX.isB K (He.ga K "InvalidPrograms") (He.ga K "NothingToUndo") false && (QX.isB K (He.ga K "InvalidPrograms") (He.ga K "TooMany") false && (QX.exmB K (He.ga K "UnlikeTags") (He.ga K "TagError") && (QX.isTB K (He.ga K "UnlikeTags") "ValueError" true && (QX.isB K (He.ga K "UnlikeTags") (He.ga K "TagError") true && (QX.isB K (He.ga K "UnlikeTags") (He.ga K "InvalidTags") false && (QX.isB K (He.ga K "UnlikeTags") (He.ga K "InvalidSubject") false && (QX.isB K (He.ga K "UnlikeTags") (He.ga K "InvalidEater") false && (QX.isB K (He.ga K "UnlikeTags") (He.ga K "InvalidNumber") false && (QX.isB K (He.ga K "UnlikeTags") (He.ga K "InvalidPrograms") false && (QX.isB K (He.ga K "UnlikeTags") (He.ga K "UnlikeTags") true && (QX.isB K (He.ga K "UnlikeTags") (He.ga K "NothingToUndo") false && (QX.isB K (He.ga K "UnlikeTags") (He.ga K "TooMany") false && (QM2.newXB K (He.ga K "NothingToUndo") && (QX.exmB K (He.ga K "NothingToUndo") (He.ga K "TagError") && (QX.isTB K (He.ga K "NothingToUndo") "ValueError" true && (QX.isB K (He.ga K "NothingToUndo") (He.ga K "TagError") true && (QX.isB K (He.ga K "NothingToUndo") (He.ga K "InvalidTags") false && (QX.isB K (He.ga K "NothingToUndo") (He.ga K "InvalidSubject") false && (QX.isB K (He.ga K "NothingToUndo") (He.ga K "InvalidEater") false && (QX.isB K (He.ga K "NothingToUndo") (He.ga K "InvalidNumber") false && (QX.isB K (He.ga K "NothingToUndo") (He.ga K "InvalidPrograms") false && (QX.isB K (He.ga K "NothingToUndo") (He.ga K "UnlikeTags") false && (QX.isB K (He.ga K "NothingToUndo") (He.ga K "NothingToUndo") true && (QX.isB K (He.ga K "NothingToUndo") (He.ga K "TooMany") false && (QX.exmB K (He.ga K "TooMany") (He.ga K "TagError") && (QX.isTB K (He.ga K "TooMany") "ValueError" true && (QX.isB K (He.ga K "TooMany") (He.ga K "TagError") true && (QX.isB K (He.ga K "TooMany") (He.ga K "InvalidTags") false && (QX.isB K (He.ga K "TooMany") (He.ga K "InvalidSubject") false && (QX.isB K (He.ga K "TooMany") (He.ga K "InvalidEater") false && (QX.isB K (He.ga K "TooMany") (He.ga K "InvalidNumber") false && (QX.isB K (He.ga K "TooMany") (He.ga K "InvalidPrograms") false && (QX.isB K (He.ga K "TooMany") (He.ga K "UnlikeTags") false && (QX.isB K (He.ga K "TooMany") (He.ga K "NothingToUndo") false && (QX.isB K (He.ga K "TooMany") (He.ga K "TooMany") true)))))))))))))))))))))))))))))))))))))))))))))))))))))))))))))))))))))))))))))))))))))))))))))))
theorem tx_mk {K : PySem.W.Frag} {h : Heap} {mg : Str → Option Value} (X0 : K.In h) (G : h.Ns mainGlobals mg) (c : He.SaysD fas dds K) (ce : exB K = true) : ∃ X : TX K mg, X.lam_c = He.codeOf K ("without_needless_ways", none) ∧ X.lam_P = He.tabOf K (He.codeOf K ("without_needless_ways", none)) ∧ X.d_law.a = He.ga K "law" := by
  obtain ⟨fd0, F0⟩ := c.def_ 0 (d := ⟨("_wall", none), "_wall", "_wall", defArgs s__wall, defBody s__wall, defScope s__wall, [], []⟩) rfl
  have F0 : L2.Fun K "_wall" "_wall" s__wall (He.fAd K ("_wall", none)) fd0 := QE.funD_fun F0
  obtain ⟨fd1, F1⟩ := c.def_ 1 (d := ⟨("is_number", none), "is_number", "is_number", defArgs s_is_number, defBody s_is_number, defScope s_is_number, [], []⟩) rfl
  have F1 : L2.Fun K "is_number" "is_number" s_is_number (He.fAd K ("is_number", none)) fd1 := QE.funD_fun F1
  obtain ⟨fd2, F2⟩ := c.def_ 2 (d := ⟨("is_list", none), "is_list", "is_list", defArgs s_is_list, defBody s_is_list, defScope s_is_list, [], []⟩) rfl
  have F2 : L2.Fun K "is_list" "is_list" s_is_list (He.fAd K ("is_list", none)) fd2 := QE.funD_fun F2
  obtain ⟨fd3, F3⟩ := c.def_ 3 (d := ⟨("is_name", none), "is_name", "is_name", defArgs s_is_name, defBody s_is_name, defScope s_is_name, [], []⟩) rfl
  have F3 : L2.Fun K "is_name" "is_name" s_is_name (He.fAd K ("is_name", none)) fd3 := QE.funD_fun F3
  obtain ⟨fd4, F4⟩ := c.def_ 4 (d := ⟨("is_tag", none), "is_tag", "is_tag", defArgs s_is_tag, defBody s_is_tag, defScope s_is_tag, [], []⟩) rfl
  have F4 : L2.Fun K "is_tag" "is_tag" s_is_tag (He.fAd K ("is_tag", none)) fd4 := QE.funD_fun F4
  obtain ⟨fd5, F5⟩ := c.def_ 5 (d := ⟨("is_subject", none), "is_subject", "is_subject", defArgs s_is_subject, defBody s_is_subject, defScope s_is_subject, [], []⟩) rfl
  have F5 : L2.Fun K "is_subject" "is_subject" s_is_subject (He.fAd K ("is_subject", none)) fd5 := QE.funD_fun F5
  obtain ⟨fd6, F6⟩ := c.def_ 6 (d := ⟨("is_standing", none), "is_standing", "is_standing", defArgs s_is_standing, defBody s_is_standing, defScope s_is_standing, [], []⟩) rfl
  have F6 : L2.Fun K "is_standing" "is_standing" s_is_standing (He.fAd K ("is_standing", none)) fd6 := QE.funD_fun F6
  obtain ⟨fd7, F7⟩ := c.def_ 7 (d := ⟨("check_tags", none), "check_tags", "check_tags", defArgs s_check_tags, defBody s_check_tags, defScope s_check_tags, [], []⟩) rfl
  have F7 : L2.Fun K "check_tags" "check_tags" s_check_tags (He.fAd K ("check_tags", none)) fd7 := QE.funD_fun F7
  obtain ⟨fd8, F8⟩ := c.def_ 8 (d := ⟨("check_word", none), "check_word", "check_word", defArgs s_check_word, defBody s_check_word, defScope s_check_word, [], []⟩) rfl
  have F8 : L2.Fun K "check_word" "check_word" s_check_word (He.fAd K ("check_word", none)) fd8 := QE.funD_fun F8
  obtain ⟨fd9, F9⟩ := c.def_ 9 (d := ⟨("check_standings", none), "check_standings", "check_standings", defArgs s_check_standings, defBody s_check_standings, defScope s_check_standings, [], []⟩) rfl
  have F9 : L2.Fun K "check_standings" "check_standings" s_check_standings (He.fAd K ("check_standings", none)) fd9 := QE.funD_fun F9
  obtain ⟨fd10, F10⟩ := c.def_ 10 (d := ⟨("check_number", none), "check_number", "check_number", defArgs s_check_number, defBody s_check_number, defScope s_check_number, [], []⟩) rfl
  have F10 : L2.Fun K "check_number" "check_number" s_check_number (He.fAd K ("check_number", none)) fd10 := QE.funD_fun F10
  obtain ⟨fd11, F11⟩ := c.def_ 11 (d := ⟨("walked", none), "walked", "walked", defArgs s_walked, defBody s_walked, defScope s_walked, [], []⟩) rfl
  have F11 : L2.Fun K "walked" "walked" s_walked (He.fAd K ("walked", none)) fd11 := QE.funD_fun F11
  obtain ⟨fd12, F12⟩ := c.def_ 12 (d := ⟨("made", none), "made", "made", defArgs s_made, defBody s_made, defScope s_made, [], []⟩) rfl
  have F12 : L2.Fun K "made" "made" s_made (He.fAd K ("made", none)) fd12 := QE.funD_fun F12
  obtain ⟨fd13, F13⟩ := c.def_ 13 (d := ⟨("is_settled_at", none), "is_settled_at", "is_settled_at", defArgs s_is_settled_at, defBody s_is_settled_at, defScope s_is_settled_at, [], []⟩) rfl
  have F13 : L2.Fun K "is_settled_at" "is_settled_at" s_is_settled_at (He.fAd K ("is_settled_at", none)) fd13 := QE.funD_fun F13
  obtain ⟨fd14, F14⟩ := c.def_ 14 (d := ⟨("is_made_at", none), "is_made_at", "is_made_at", defArgs s_is_made_at, defBody s_is_made_at, defScope s_is_made_at, [], []⟩) rfl
  have F14 : L2.Fun K "is_made_at" "is_made_at" s_is_made_at (He.fAd K ("is_made_at", none)) fd14 := QE.funD_fun F14
  obtain ⟨fd15, F15⟩ := c.def_ 15 (d := ⟨("copied", none), "copied", "copied", defArgs s_copied, defBody s_copied, defScope s_copied, [], []⟩) rfl
  have F15 : L2.Fun K "copied" "copied" s_copied (He.fAd K ("copied", none)) fd15 := QE.funD_fun F15
  obtain ⟨fd16, F16⟩ := c.def_ 16 (d := ⟨("without_needless_ways", none), "without_needless_ways", "without_needless_ways", defArgs s_without_needless_ways, defBody s_without_needless_ways, defScope s_without_needless_ways, [], []⟩) rfl
  have G16 : QB.FunC K "without_needless_ways" "without_needless_ways" s_without_needless_ways (He.fAd K ("without_needless_ways", none)) fd16 (He.codeOf K ("without_needless_ways", none)) := QE.funC_of F16
  have F16 : L2.Fun K "without_needless_ways" "without_needless_ways" s_without_needless_ways (He.fAd K ("without_needless_ways", none)) fd16 := QE.funD_fun F16
  obtain ⟨fd17, F17⟩ := c.def_ 17 (d := ⟨("numbered", none), "numbered", "numbered", defArgs s_numbered, defBody s_numbered, defScope s_numbered, [], []⟩) rfl
  have F17 : L2.Fun K "numbered" "numbered" s_numbered (He.fAd K ("numbered", none)) fd17 := QE.funD_fun F17
  obtain ⟨fd18, F18⟩ := c.def_ 18 (d := ⟨("parted", none), "parted", "parted", defArgs s_parted, defBody s_parted, defScope s_parted, [], []⟩) rfl
  have F18 : L2.Fun K "parted" "parted" s_parted (He.fAd K ("parted", none)) fd18 := QE.funD_fun F18
  obtain ⟨fd19, F19⟩ := c.def_ 19 (d := ⟨("alike_classes", none), "alike_classes", "alike_classes", defArgs s_alike_classes, defBody s_alike_classes, defScope s_alike_classes, [], []⟩) rfl
  have F19 : L2.Fun K "alike_classes" "alike_classes" s_alike_classes (He.fAd K ("alike_classes", none)) fd19 := QE.funD_fun F19
  obtain ⟨fd20, F20⟩ := c.def_ 20 (d := ⟨("in_order_met", none), "in_order_met", "in_order_met", defArgs s_in_order_met, defBody s_in_order_met, defScope s_in_order_met, [], []⟩) rfl
  have F20 : L2.Fun K "in_order_met" "in_order_met" s_in_order_met (He.fAd K ("in_order_met", none)) fd20 := QE.funD_fun F20
  obtain ⟨fd21, F21⟩ := c.def_ 21 (d := ⟨("least_form", none), "least_form", "least_form", defArgs s_least_form, defBody s_least_form, defScope s_least_form, [], []⟩) rfl
  have F21 : L2.Fun K "least_form" "least_form" s_least_form (He.fAd K ("least_form", none)) fd21 := QE.funD_fun F21
  obtain ⟨fd22, F22⟩ := c.def_ 22 (d := ⟨("check_same_tags", none), "check_same_tags", "check_same_tags", defArgs s_check_same_tags, defBody s_check_same_tags, defScope s_check_same_tags, [], []⟩) rfl
  have F22 : L2.Fun K "check_same_tags" "check_same_tags" s_check_same_tags (He.fAd K ("check_same_tags", none)) fd22 := QE.funD_fun F22
  obtain ⟨fd23, F23⟩ := c.def_ 23 (d := ⟨("check_programs", none), "check_programs", "check_programs", defArgs s_check_programs, defBody s_check_programs, defScope s_check_programs, [], []⟩) rfl
  have F23 : L2.Fun K "check_programs" "check_programs" s_check_programs (He.fAd K ("check_programs", none)) fd23 := QE.funD_fun F23
  obtain ⟨fd24, F24⟩ := c.def_ 24 (d := ⟨("_law_mixed", none), "_law_mixed", "_law_mixed", defArgs s__law_mixed, defBody s__law_mixed, defScope s__law_mixed, [], []⟩) rfl
  have F24 : L2.Fun K "_law_mixed" "_law_mixed" s__law_mixed (He.fAd K ("_law_mixed", none)) fd24 := QE.funD_fun F24
  obtain ⟨fd25, F25⟩ := c.def_ 25 (d := ⟨("_law_pile", none), "_law_pile", "_law_pile", defArgs s__law_pile, defBody s__law_pile, defScope s__law_pile, [], []⟩) rfl
  have F25 : L2.Fun K "_law_pile" "_law_pile" s__law_pile (He.fAd K ("_law_pile", none)) fd25 := QE.funD_fun F25
  obtain ⟨fd26, F26⟩ := c.def_ 26 (d := ⟨("_law_take", none), "_law_take", "_law_take", defArgs s__law_take, defBody s__law_take, defScope s__law_take, [], []⟩) rfl
  have F26 : L2.Fun K "_law_take" "_law_take" s__law_take (He.fAd K ("_law_take", none)) fd26 := QE.funD_fun F26
  obtain ⟨fd27, F27⟩ := c.def_ 27 (d := ⟨("_law_order", none), "_law_order", "_law_order", defArgs s__law_order, defBody s__law_order, defScope s__law_order, [], []⟩) rfl
  have F27 : L2.Fun K "_law_order" "_law_order" s__law_order (He.fAd K ("_law_order", none)) fd27 := QE.funD_fun F27
  obtain ⟨fd28, F28⟩ := c.def_ 28 (d := ⟨("_law_tags", none), "_law_tags", "_law_tags", defArgs s__law_tags, defBody s__law_tags, defScope s__law_tags, [], []⟩) rfl
  have F28 : L2.Fun K "_law_tags" "_law_tags" s__law_tags (He.fAd K ("_law_tags", none)) fd28 := QE.funD_fun F28
  obtain ⟨fd29, F29⟩ := c.def_ 29 (d := ⟨("_law_word", none), "_law_word", "_law_word", defArgs s__law_word, defBody s__law_word, defScope s__law_word, [], []⟩) rfl
  have F29 : L2.Fun K "_law_word" "_law_word" s__law_word (He.fAd K ("_law_word", none)) fd29 := QE.funD_fun F29
  obtain ⟨fd30, F30⟩ := c.def_ 30 (d := ⟨("_law_standings", none), "_law_standings", "_law_standings", defArgs s__law_standings, defBody s__law_standings, defScope s__law_standings, [], []⟩) rfl
  have F30 : L2.Fun K "_law_standings" "_law_standings" s__law_standings (He.fAd K ("_law_standings", none)) fd30 := QE.funD_fun F30
  obtain ⟨fd31, F31⟩ := c.def_ 31 (d := ⟨("_law_eaten", none), "_law_eaten", "_law_eaten", defArgs s__law_eaten, defBody s__law_eaten, defScope s__law_eaten, [], []⟩) rfl
  have F31 : L2.Fun K "_law_eaten" "_law_eaten" s__law_eaten (He.fAd K ("_law_eaten", none)) fd31 := QE.funD_fun F31
  obtain ⟨fd32, F32⟩ := c.def_ 32 (d := ⟨("_law_row_done", none), "_law_row_done", "_law_row_done", defArgs s__law_row_done, defBody s__law_row_done, defScope s__law_row_done, [], []⟩) rfl
  have F32 : L2.Fun K "_law_row_done" "_law_row_done" s__law_row_done (He.fAd K ("_law_row_done", none)) fd32 := QE.funD_fun F32
  obtain ⟨fd33, F33⟩ := c.def_ 33 (d := ⟨("_law_talks", none), "_law_talks", "_law_talks", defArgs s__law_talks, defBody s__law_talks, defScope s__law_talks, [], []⟩) rfl
  have F33 : L2.Fun K "_law_talks" "_law_talks" s__law_talks (He.fAd K ("_law_talks", none)) fd33 := QE.funD_fun F33
  obtain ⟨fd34, F34⟩ := c.def_ 34 (d := ⟨("_law_undone", none), "_law_undone", "_law_undone", defArgs s__law_undone, defBody s__law_undone, defScope s__law_undone, [], []⟩) rfl
  have F34 : L2.Fun K "_law_undone" "_law_undone" s__law_undone (He.fAd K ("_law_undone", none)) fd34 := QE.funD_fun F34
  obtain ⟨fd35, F35⟩ := c.def_ 35 (d := ⟨("_law_box_right", none), "_law_box_right", "_law_box_right", defArgs s__law_box_right, defBody s__law_box_right, defScope s__law_box_right, [], []⟩) rfl
  have F35 : L2.Fun K "_law_box_right" "_law_box_right" s__law_box_right (He.fAd K ("_law_box_right", none)) fd35 := QE.funD_fun F35
  obtain ⟨fd36, F36⟩ := c.def_ 36 (d := ⟨("_law_deed_right", none), "_law_deed_right", "_law_deed_right", defArgs s__law_deed_right, defBody s__law_deed_right, defScope s__law_deed_right, [], []⟩) rfl
  have F36 : L2.Fun K "_law_deed_right" "_law_deed_right" s__law_deed_right (He.fAd K ("_law_deed_right", none)) fd36 := QE.funD_fun F36
  obtain ⟨fd37, F37⟩ := c.def_ 37 (d := ⟨("law", none), "law", "law", defArgs s_law, defBody s_law, defScope s_law, [], []⟩) rfl
  have F37 : L2.Fun K "law" "law" s_law (He.fAd K ("law", none)) fd37 := QE.funD_fun F37
  obtain ⟨fd38, F38⟩ := c.def_ 38 (d := ⟨("InvalidTags", some "__init__"), "__init__", "InvalidTags.__init__", defArgs s_InvalidTags___init__, defBody s_InvalidTags___init__, defScope s_InvalidTags___init__, [], []⟩) rfl
  have F38 : L2.Fun K "__init__" "InvalidTags.__init__" s_InvalidTags___init__ (He.fAd K ("InvalidTags", some "__init__")) fd38 := QE.funD_fun F38
  obtain ⟨fd39, F39⟩ := c.def_ 39 (d := ⟨("InvalidSubject", some "__init__"), "__init__", "InvalidSubject.__init__", defArgs s_InvalidSubject___init__, defBody s_InvalidSubject___init__, defScope s_InvalidSubject___init__, [], []⟩) rfl
  have F39 : L2.Fun K "__init__" "InvalidSubject.__init__" s_InvalidSubject___init__ (He.fAd K ("InvalidSubject", some "__init__")) fd39 := QE.funD_fun F39
  obtain ⟨fd40, F40⟩ := c.def_ 40 (d := ⟨("InvalidEater", some "__init__"), "__init__", "InvalidEater.__init__", defArgs s_InvalidEater___init__, defBody s_InvalidEater___init__, defScope s_InvalidEater___init__, [], []⟩) rfl
  have F40 : L2.Fun K "__init__" "InvalidEater.__init__" s_InvalidEater___init__ (He.fAd K ("InvalidEater", some "__init__")) fd40 := QE.funD_fun F40
  obtain ⟨fd41, F41⟩ := c.def_ 41 (d := ⟨("InvalidNumber", some "__init__"), "__init__", "InvalidNumber.__init__", defArgs s_InvalidNumber___init__, defBody s_InvalidNumber___init__, defScope s_InvalidNumber___init__, [], []⟩) rfl
  have F41 : L2.Fun K "__init__" "InvalidNumber.__init__" s_InvalidNumber___init__ (He.fAd K ("InvalidNumber", some "__init__")) fd41 := QE.funD_fun F41
  obtain ⟨fd42, F42⟩ := c.def_ 42 (d := ⟨("InvalidPrograms", some "__init__"), "__init__", "InvalidPrograms.__init__", defArgs s_InvalidPrograms___init__, defBody s_InvalidPrograms___init__, defScope s_InvalidPrograms___init__, [], []⟩) rfl
  have F42 : L2.Fun K "__init__" "InvalidPrograms.__init__" s_InvalidPrograms___init__ (He.fAd K ("InvalidPrograms", some "__init__")) fd42 := QE.funD_fun F42
  obtain ⟨fd43, F43⟩ := c.def_ 43 (d := ⟨("TooMany", some "__init__"), "__init__", "TooMany.__init__", defArgs s_TooMany___init__, defBody s_TooMany___init__, defScope s_TooMany___init__, [], []⟩) rfl
  have F43 : L2.Fun K "__init__" "TooMany.__init__" s_TooMany___init__ (He.fAd K ("TooMany", some "__init__")) fd43 := QE.funD_fun F43
  obtain ⟨fd44, F44⟩ := c.def_ 44 (d := ⟨("Eater", some "__init__"), "__init__", "Eater.__init__", defArgs s_Eater___init__, defBody s_Eater___init__, defScope s_Eater___init__, [], []⟩) rfl
  have F44 : L2.Fun K "__init__" "Eater.__init__" s_Eater___init__ (He.fAd K ("Eater", some "__init__")) fd44 := QE.funD_fun F44
  obtain ⟨fd45, F45⟩ := c.def_ 45 (d := ⟨("Eater", some "__len__"), "__len__", "Eater.__len__", defArgs s_Eater___len__, defBody s_Eater___len__, defScope s_Eater___len__, [], []⟩) rfl
  have F45 : L2.Fun K "__len__" "Eater.__len__" s_Eater___len__ (He.fAd K ("Eater", some "__len__")) fd45 := QE.funD_fun F45
  obtain ⟨fd46, F46⟩ := c.def_ 46 (d := ⟨("Eater", some "__eq__"), "__eq__", "Eater.__eq__", defArgs s_Eater___eq__, defBody s_Eater___eq__, defScope s_Eater___eq__, [], []⟩) rfl
  have F46 : L2.Fun K "__eq__" "Eater.__eq__" s_Eater___eq__ (He.fAd K ("Eater", some "__eq__")) fd46 := QE.funD_fun F46
  obtain ⟨fd47, F47⟩ := c.def_ 47 (d := ⟨("Eater", some "__contains__"), "__contains__", "Eater.__contains__", defArgs s_Eater___contains__, defBody s_Eater___contains__, defScope s_Eater___contains__, [], []⟩) rfl
  have F47 : L2.Fun K "__contains__" "Eater.__contains__" s_Eater___contains__ (He.fAd K ("Eater", some "__contains__")) fd47 := QE.funD_fun F47
  obtain ⟨fd48, F48⟩ := c.def_ 48 (d := ⟨("Eater", some "tags"), "tags", "Eater.tags", defArgs s_Eater_tags, defBody s_Eater_tags, defScope s_Eater_tags, [], []⟩) rfl
  have F48 : L2.Fun K "tags" "Eater.tags" s_Eater_tags (He.fAd K ("Eater", some "tags")) fd48 := QE.funD_fun F48
  obtain ⟨fd49, F49⟩ := c.def_ 49 (d := ⟨("Eater", some "standings"), "standings", "Eater.standings", defArgs s_Eater_standings, defBody s_Eater_standings, defScope s_Eater_standings, [], []⟩) rfl
  have F49 : L2.Fun K "standings" "Eater.standings" s_Eater_standings (He.fAd K ("Eater", some "standings")) fd49 := QE.funD_fun F49
  obtain ⟨fd50, F50⟩ := c.def_ 50 (d := ⟨("Eater", some "on"), "on", "Eater.on", defArgs s_Eater_on, defBody s_Eater_on, defScope s_Eater_on, [], []⟩) rfl
  have F50 : L2.Fun K "on" "Eater.on" s_Eater_on (He.fAd K ("Eater", some "on")) fd50 := QE.funD_fun F50
  obtain ⟨fd51, F51⟩ := c.def_ 51 (d := ⟨("Eater", some "settled"), "settled", "Eater.settled", defArgs s_Eater_settled, defBody s_Eater_settled, defScope s_Eater_settled, [], []⟩) rfl
  have F51 : L2.Fun K "settled" "Eater.settled" s_Eater_settled (He.fAd K ("Eater", some "settled")) fd51 := QE.funD_fun F51
  obtain ⟨fd52, F52⟩ := c.def_ 52 (d := ⟨("Eater", some "then"), "then", "Eater.then", defArgs s_Eater_then, defBody s_Eater_then, defScope s_Eater_then, [], []⟩) rfl
  have F52 : L2.Fun K "then" "Eater.then" s_Eater_then (He.fAd K ("Eater", some "then")) fd52 := QE.funD_fun F52
  obtain ⟨fd53, F53⟩ := c.def_ 53 (d := ⟨("Eater", some "power"), "power", "Eater.power", defArgs s_Eater_power, defBody s_Eater_power, defScope s_Eater_power, [], []⟩) rfl
  have F53 : L2.Fun K "power" "Eater.power" s_Eater_power (He.fAd K ("Eater", some "power")) fd53 := QE.funD_fun F53
  obtain ⟨fd54, F54⟩ := c.def_ 54 (d := ⟨("Mailbox", some "__init__"), "__init__", "Mailbox.__init__", defArgs s_Mailbox___init__, defBody s_Mailbox___init__, defScope s_Mailbox___init__, [], []⟩) rfl
  have F54 : L2.Fun K "__init__" "Mailbox.__init__" s_Mailbox___init__ (He.fAd K ("Mailbox", some "__init__")) fd54 := QE.funD_fun F54
  obtain ⟨fd55, F55⟩ := c.def_ 55 (d := ⟨("Mailbox", some "__len__"), "__len__", "Mailbox.__len__", defArgs s_Mailbox___len__, defBody s_Mailbox___len__, defScope s_Mailbox___len__, [], []⟩) rfl
  have F55 : L2.Fun K "__len__" "Mailbox.__len__" s_Mailbox___len__ (He.fAd K ("Mailbox", some "__len__")) fd55 := QE.funD_fun F55
  obtain ⟨fd56, F56⟩ := c.def_ 56 (d := ⟨("Mailbox", some "__getitem__"), "__getitem__", "Mailbox.__getitem__", defArgs s_Mailbox___getitem__, defBody s_Mailbox___getitem__, defScope s_Mailbox___getitem__, [], []⟩) rfl
  have F56 : L2.Fun K "__getitem__" "Mailbox.__getitem__" s_Mailbox___getitem__ (He.fAd K ("Mailbox", some "__getitem__")) fd56 := QE.funD_fun F56
  obtain ⟨fd57, F57⟩ := c.def_ 57 (d := ⟨("Mailbox", some "__iter__"), "__iter__", "Mailbox.__iter__", defArgs s_Mailbox___iter__, defBody s_Mailbox___iter__, defScope s_Mailbox___iter__, [], []⟩) rfl
  have F57 : L2.Fun K "__iter__" "Mailbox.__iter__" s_Mailbox___iter__ (He.fAd K ("Mailbox", some "__iter__")) fd57 := QE.funD_fun F57
  obtain ⟨fd58, F58⟩ := c.def_ 58 (d := ⟨("Mailbox", some "begin"), "begin", "Mailbox.begin", defArgs s_Mailbox_begin, defBody s_Mailbox_begin, defScope s_Mailbox_begin, [], []⟩) rfl
  have F58 : L2.Fun K "begin" "Mailbox.begin" s_Mailbox_begin (He.fAd K ("Mailbox", some "begin")) fd58 := QE.funD_fun F58
  obtain ⟨fd59, F59⟩ := c.def_ 59 (d := ⟨("Mailbox", some "answer"), "answer", "Mailbox.answer", defArgs s_Mailbox_answer, defBody s_Mailbox_answer, defScope s_Mailbox_answer, [], []⟩) rfl
  have F59 : L2.Fun K "answer" "Mailbox.answer" s_Mailbox_answer (He.fAd K ("Mailbox", some "answer")) fd59 := QE.funD_fun F59
  obtain ⟨fd60, F60⟩ := c.def_ 60 (d := ⟨("Mailbox", some "key_of"), "key_of", "Mailbox.key_of", defArgs s_Mailbox_key_of, defBody s_Mailbox_key_of, defScope s_Mailbox_key_of, [], []⟩) rfl
  have F60 : L2.Fun K "key_of" "Mailbox.key_of" s_Mailbox_key_of (He.fAd K ("Mailbox", some "key_of")) fd60 := QE.funD_fun F60
  obtain ⟨fd61, F61⟩ := c.def_ 61 (d := ⟨("Mailbox", some "talk"), "talk", "Mailbox.talk", defArgs s_Mailbox_talk, defBody s_Mailbox_talk, defScope s_Mailbox_talk, [], []⟩) rfl
  have F61 : L2.Fun K "talk" "Mailbox.talk" s_Mailbox_talk (He.fAd K ("Mailbox", some "talk")) fd61 := QE.funD_fun F61
  obtain ⟨fd62, F62⟩ := c.def_ 62 (d := ⟨("Mailbox", some "talks"), "talks", "Mailbox.talks", defArgs s_Mailbox_talks, defBody s_Mailbox_talks, defScope s_Mailbox_talks, [], []⟩) rfl
  have F62 : L2.Fun K "talks" "Mailbox.talks" s_Mailbox_talks (He.fAd K ("Mailbox", some "talks")) fd62 := QE.funD_fun F62
  obtain ⟨fd63, F63⟩ := c.def_ 63 (d := ⟨("Mailbox", some "tried"), "tried", "Mailbox.tried", defArgs s_Mailbox_tried, defBody s_Mailbox_tried, defScope s_Mailbox_tried, [], []⟩) rfl
  have F63 : L2.Fun K "tried" "Mailbox.tried" s_Mailbox_tried (He.fAd K ("Mailbox", some "tried")) fd63 := QE.funD_fun F63
  obtain ⟨fd64, F64⟩ := c.def_ 64 (d := ⟨("Mailbox", some "undo"), "undo", "Mailbox.undo", defArgs s_Mailbox_undo, defBody s_Mailbox_undo, defScope s_Mailbox_undo, [], []⟩) rfl
  have F64 : L2.Fun K "undo" "Mailbox.undo" s_Mailbox_undo (He.fAd K ("Mailbox", some "undo")) fd64 := QE.funD_fun F64
  obtain ⟨fd65, F65⟩ := c.def_ 65 (d := ⟨("Mailbox", some "trial"), "trial", "Mailbox.trial", defArgs s_Mailbox_trial, defBody s_Mailbox_trial, defScope s_Mailbox_trial, [], []⟩) rfl
  have F65 : L2.Fun K "trial" "Mailbox.trial" s_Mailbox_trial (He.fAd K ("Mailbox", some "trial")) fd65 := QE.funD_fun F65
  obtain ⟨fd66, F66⟩ := c.def_ 66 (d := ⟨("Mailbox", some "_come"), "_come", "Mailbox._come", defArgs s_Mailbox__come, defBody s_Mailbox__come, defScope s_Mailbox__come, [], []⟩) rfl
  have F66 : L2.Fun K "_come" "Mailbox._come" s_Mailbox__come (He.fAd K ("Mailbox", some "_come")) fd66 := QE.funD_fun F66
  obtain ⟨fd67, F67⟩ := c.def_ 67 (d := ⟨("Mailbox", some "_answered"), "_answered", "Mailbox._answered", defArgs s_Mailbox__answered, defBody s_Mailbox__answered, defScope s_Mailbox__answered, [], []⟩) rfl
  have F67 : L2.Fun K "_answered" "Mailbox._answered" s_Mailbox__answered (He.fAd K ("Mailbox", some "_answered")) fd67 := QE.funD_fun F67
  obtain ⟨fd68, F68⟩ := c.def_ 68 (d := ⟨("Mailbox", some "_with_key"), "_with_key", "Mailbox._with_key", defArgs s_Mailbox__with_key, defBody s_Mailbox__with_key, defScope s_Mailbox__with_key, [], []⟩) rfl
  have F68 : L2.Fun K "_with_key" "Mailbox._with_key" s_Mailbox__with_key (He.fAd K ("Mailbox", some "_with_key")) fd68 := QE.funD_fun F68
  obtain ⟨b_own_Eater, ce⟩ := He.ba ce
  obtain ⟨b_x_InvalidTags, ce⟩ := He.ba ce
  obtain ⟨b_x_InvalidSubject, ce⟩ := He.ba ce
  obtain ⟨b_x_InvalidEater, ce⟩ := He.ba ce
  obtain ⟨b_x_InvalidNumber, ce⟩ := He.ba ce
  obtain ⟨b_x_InvalidPrograms, ce⟩ := He.ba ce
  obtain ⟨b_x_TooMany, ce⟩ := He.ba ce
  obtain ⟨b_e_InvalidTags, ce⟩ := He.ba ce
  obtain ⟨b_v_InvalidTags, ce⟩ := He.ba ce
  obtain ⟨b_i_InvalidTags_TagError, ce⟩ := He.ba ce
  obtain ⟨b_i_InvalidTags_InvalidTags, ce⟩ := He.ba ce
  obtain ⟨b_i_InvalidTags_InvalidSubject, ce⟩ := He.ba ce
  obtain ⟨b_i_InvalidTags_InvalidEater, ce⟩ := He.ba ce
  obtain ⟨b_i_InvalidTags_InvalidNumber, ce⟩ := He.ba ce
  obtain ⟨b_i_InvalidTags_InvalidPrograms, ce⟩ := He.ba ce
  obtain ⟨b_i_InvalidTags_UnlikeTags, ce⟩ := He.ba ce
  obtain ⟨b_i_InvalidTags_NothingToUndo, ce⟩ := He.ba ce
  obtain ⟨b_i_InvalidTags_TooMany, ce⟩ := He.ba ce
  obtain ⟨b_e_InvalidSubject, ce⟩ := He.ba ce
  obtain ⟨b_v_InvalidSubject, ce⟩ := He.ba ce
  obtain ⟨b_i_InvalidSubject_TagError, ce⟩ := He.ba ce
  obtain ⟨b_i_InvalidSubject_InvalidTags, ce⟩ := He.ba ce
  obtain ⟨b_i_InvalidSubject_InvalidSubject, ce⟩ := He.ba ce
  obtain ⟨b_i_InvalidSubject_InvalidEater, ce⟩ := He.ba ce
  obtain ⟨b_i_InvalidSubject_InvalidNumber, ce⟩ := He.ba ce
  obtain ⟨b_i_InvalidSubject_InvalidPrograms, ce⟩ := He.ba ce
  obtain ⟨b_i_InvalidSubject_UnlikeTags, ce⟩ := He.ba ce
  obtain ⟨b_i_InvalidSubject_NothingToUndo, ce⟩ := He.ba ce
  obtain ⟨b_i_InvalidSubject_TooMany, ce⟩ := He.ba ce
  obtain ⟨b_e_InvalidEater, ce⟩ := He.ba ce
  obtain ⟨b_v_InvalidEater, ce⟩ := He.ba ce
  obtain ⟨b_i_InvalidEater_TagError, ce⟩ := He.ba ce
  obtain ⟨b_i_InvalidEater_InvalidTags, ce⟩ := He.ba ce
  obtain ⟨b_i_InvalidEater_InvalidSubject, ce⟩ := He.ba ce
  obtain ⟨b_i_InvalidEater_InvalidEater, ce⟩ := He.ba ce
  obtain ⟨b_i_InvalidEater_InvalidNumber, ce⟩ := He.ba ce
  obtain ⟨b_i_InvalidEater_InvalidPrograms, ce⟩ := He.ba ce
  obtain ⟨b_i_InvalidEater_UnlikeTags, ce⟩ := He.ba ce
  obtain ⟨b_i_InvalidEater_NothingToUndo, ce⟩ := He.ba ce
  obtain ⟨b_i_InvalidEater_TooMany, ce⟩ := He.ba ce
  obtain ⟨b_e_InvalidNumber, ce⟩ := He.ba ce
  obtain ⟨b_v_InvalidNumber, ce⟩ := He.ba ce
  obtain ⟨b_i_InvalidNumber_TagError, ce⟩ := He.ba ce
  obtain ⟨b_i_InvalidNumber_InvalidTags, ce⟩ := He.ba ce
  obtain ⟨b_i_InvalidNumber_InvalidSubject, ce⟩ := He.ba ce
  obtain ⟨b_i_InvalidNumber_InvalidEater, ce⟩ := He.ba ce
  obtain ⟨b_i_InvalidNumber_InvalidNumber, ce⟩ := He.ba ce
  obtain ⟨b_i_InvalidNumber_InvalidPrograms, ce⟩ := He.ba ce
  obtain ⟨b_i_InvalidNumber_UnlikeTags, ce⟩ := He.ba ce
  obtain ⟨b_i_InvalidNumber_NothingToUndo, ce⟩ := He.ba ce
  obtain ⟨b_i_InvalidNumber_TooMany, ce⟩ := He.ba ce
  obtain ⟨b_e_InvalidPrograms, ce⟩ := He.ba ce
  obtain ⟨b_v_InvalidPrograms, ce⟩ := He.ba ce
  obtain ⟨b_i_InvalidPrograms_TagError, ce⟩ := He.ba ce
  obtain ⟨b_i_InvalidPrograms_InvalidTags, ce⟩ := He.ba ce
  obtain ⟨b_i_InvalidPrograms_InvalidSubject, ce⟩ := He.ba ce
  obtain ⟨b_i_InvalidPrograms_InvalidEater, ce⟩ := He.ba ce
  obtain ⟨b_i_InvalidPrograms_InvalidNumber, ce⟩ := He.ba ce
  obtain ⟨b_i_InvalidPrograms_InvalidPrograms, ce⟩ := He.ba ce
  obtain ⟨b_i_InvalidPrograms_UnlikeTags, ce⟩ := He.ba ce
  obtain ⟨b_i_InvalidPrograms_NothingToUndo, ce⟩ := He.ba ce
  obtain ⟨b_i_InvalidPrograms_TooMany, ce⟩ := He.ba ce
  obtain ⟨b_e_UnlikeTags, ce⟩ := He.ba ce
  obtain ⟨b_v_UnlikeTags, ce⟩ := He.ba ce
  obtain ⟨b_i_UnlikeTags_TagError, ce⟩ := He.ba ce
  obtain ⟨b_i_UnlikeTags_InvalidTags, ce⟩ := He.ba ce
  obtain ⟨b_i_UnlikeTags_InvalidSubject, ce⟩ := He.ba ce
  obtain ⟨b_i_UnlikeTags_InvalidEater, ce⟩ := He.ba ce
  obtain ⟨b_i_UnlikeTags_InvalidNumber, ce⟩ := He.ba ce
  obtain ⟨b_i_UnlikeTags_InvalidPrograms, ce⟩ := He.ba ce
  obtain ⟨b_i_UnlikeTags_UnlikeTags, ce⟩ := He.ba ce
  obtain ⟨b_i_UnlikeTags_NothingToUndo, ce⟩ := He.ba ce
  obtain ⟨b_i_UnlikeTags_TooMany, ce⟩ := He.ba ce
  obtain ⟨b_n_NothingToUndo, ce⟩ := He.ba ce
  obtain ⟨b_e_NothingToUndo, ce⟩ := He.ba ce
  obtain ⟨b_v_NothingToUndo, ce⟩ := He.ba ce
  obtain ⟨b_i_NothingToUndo_TagError, ce⟩ := He.ba ce
  obtain ⟨b_i_NothingToUndo_InvalidTags, ce⟩ := He.ba ce
  obtain ⟨b_i_NothingToUndo_InvalidSubject, ce⟩ := He.ba ce
  obtain ⟨b_i_NothingToUndo_InvalidEater, ce⟩ := He.ba ce
  obtain ⟨b_i_NothingToUndo_InvalidNumber, ce⟩ := He.ba ce
  obtain ⟨b_i_NothingToUndo_InvalidPrograms, ce⟩ := He.ba ce
  obtain ⟨b_i_NothingToUndo_UnlikeTags, ce⟩ := He.ba ce
  obtain ⟨b_i_NothingToUndo_NothingToUndo, ce⟩ := He.ba ce
  obtain ⟨b_i_NothingToUndo_TooMany, ce⟩ := He.ba ce
  obtain ⟨b_e_TooMany, ce⟩ := He.ba ce
  obtain ⟨b_v_TooMany, ce⟩ := He.ba ce
  obtain ⟨b_i_TooMany_TagError, ce⟩ := He.ba ce
  obtain ⟨b_i_TooMany_InvalidTags, ce⟩ := He.ba ce
  obtain ⟨b_i_TooMany_InvalidSubject, ce⟩ := He.ba ce
  obtain ⟨b_i_TooMany_InvalidEater, ce⟩ := He.ba ce
  obtain ⟨b_i_TooMany_InvalidNumber, ce⟩ := He.ba ce
  obtain ⟨b_i_TooMany_InvalidPrograms, ce⟩ := He.ba ce
  obtain ⟨b_i_TooMany_UnlikeTags, ce⟩ := He.ba ce
  obtain ⟨b_i_TooMany_NothingToUndo, ce⟩ := He.ba ce
  have b_i_TooMany_TooMany := ce
  exact ⟨{
    n_TypeError := He.free_ok X0 G (c.fact 0 (f := .free "TypeError") rfl),
    n_abs := He.free_ok X0 G (c.fact 1 (f := .free "abs") rfl),
    n_all := He.free_ok X0 G (c.fact 2 (f := .free "all") rfl),
    n_any := He.free_ok X0 G (c.fact 3 (f := .free "any") rfl),
    n_bool := He.free_ok X0 G (c.fact 4 (f := .free "bool") rfl),
    n_enumerate := He.free_ok X0 G (c.fact 5 (f := .free "enumerate") rfl),
    n_int := He.free_ok X0 G (c.fact 6 (f := .free "int") rfl),
    n_isinstance := He.free_ok X0 G (c.fact 7 (f := .free "isinstance") rfl),
    n_len := He.free_ok X0 G (c.fact 8 (f := .free "len") rfl),
    n_list := He.free_ok X0 G (c.fact 9 (f := .free "list") rfl),
    n_max := He.free_ok X0 G (c.fact 10 (f := .free "max") rfl),
    n_range := He.free_ok X0 G (c.fact 11 (f := .free "range") rfl),
    n_sorted := He.free_ok X0 G (c.fact 12 (f := .free "sorted") rfl),
    n_str := He.free_ok X0 G (c.fact 13 (f := .free "str") rfl),
    n_tuple := He.free_ok X0 G (c.fact 14 (f := .free "tuple") rfl),
    n_zip := He.free_ok X0 G (c.fact 15 (f := .free "zip") rfl),
    c_LETTERS := (let ⟨t, h⟩ := He.str_ok X0 G (c.fact 16 (f := .str "LETTERS" "abcdefghijklmnopqrstuvwxyz") rfl); ⟨_, h, t, rfl⟩),
    c_MOST_LETTERS := (let ⟨t, h⟩ := He.int_ok X0 G (c.fact 17 (f := .int "MOST_LETTERS" 8) rfl); ⟨_, h, t, rfl⟩),
    c_MOST_TAGS := (let ⟨t, h⟩ := He.int_ok X0 G (c.fact 18 (f := .int "MOST_TAGS" 6) rfl); ⟨_, h, t, rfl⟩),
    c_MOST_STANDINGS := (let ⟨t, h⟩ := He.int_ok X0 G (c.fact 19 (f := .int "MOST_STANDINGS" 30) rfl); ⟨_, h, t, rfl⟩),
    c_LONGEST_WORD := (let ⟨t, h⟩ := He.int_ok X0 G (c.fact 20 (f := .int "LONGEST_WORD" 8) rfl); ⟨_, h, t, rfl⟩),
    c_LONGEST_SUBJECT := (let ⟨t, h⟩ := He.int_ok X0 G (c.fact 21 (f := .int "LONGEST_SUBJECT" 200) rfl); ⟨_, h, t, rfl⟩),
    c_MOST_PROGRAMS := (let ⟨t, h⟩ := He.int_ok X0 G (c.fact 22 (f := .int "MOST_PROGRAMS" 6) rfl); ⟨_, h, t, rfl⟩),
    d__wall := { a := He.fAd K ("_wall", none), fd := fd0, F := F0, b := F0.binds fun _ _ _ _ _ _ us hl => match us, hl with | [_], _ => rfl, mg := He.glo_ok X0 G (c.fact 23 (f := .glo "_wall") rfl) },
    d_is_number := { a := He.fAd K ("is_number", none), fd := fd1, F := F1, b := F1.binds fun _ _ _ _ _ _ us hl => match us, hl with | [_, _, _], _ => rfl, mg := He.glo_ok X0 G (c.fact 24 (f := .glo "is_number") rfl) },
    d_is_list := { a := He.fAd K ("is_list", none), fd := fd2, F := F2, b := F2.binds fun _ _ _ _ _ _ us hl => match us, hl with | [_, _, _], _ => rfl, mg := He.glo_ok X0 G (c.fact 25 (f := .glo "is_list") rfl) },
    d_is_name := { a := He.fAd K ("is_name", none), fd := fd3, F := F3, b := F3.binds fun _ _ _ _ _ _ us hl => match us, hl with | [_], _ => rfl, mg := He.glo_ok X0 G (c.fact 26 (f := .glo "is_name") rfl) },
    d_is_tag := { a := He.fAd K ("is_tag", none), fd := fd4, F := F4, b := F4.binds fun _ _ _ _ _ _ us hl => match us, hl with | [_, _], _ => rfl, mg := He.glo_ok X0 G (c.fact 27 (f := .glo "is_tag") rfl) },
    d_is_subject := { a := He.fAd K ("is_subject", none), fd := fd5, F := F5, b := F5.binds fun _ _ _ _ _ _ us hl => match us, hl with | [_, _], _ => rfl, mg := He.glo_ok X0 G (c.fact 28 (f := .glo "is_subject") rfl) },
    d_is_standing := { a := He.fAd K ("is_standing", none), fd := fd6, F := F6, b := F6.binds fun _ _ _ _ _ _ us hl => match us, hl with | [_, _, _], _ => rfl, mg := He.glo_ok X0 G (c.fact 29 (f := .glo "is_standing") rfl) },
    d_check_tags := { a := He.fAd K ("check_tags", none), fd := fd7, F := F7, b := F7.binds fun _ _ _ _ _ _ us hl => match us, hl with | [_], _ => rfl, mg := He.glo_ok X0 G (c.fact 30 (f := .glo "check_tags") rfl) },
    d_check_word := { a := He.fAd K ("check_word", none), fd := fd8, F := F8, b := F8.binds fun _ _ _ _ _ _ us hl => match us, hl with | [_, _, _], _ => rfl, mg := He.glo_ok X0 G (c.fact 31 (f := .glo "check_word") rfl) },
    d_check_standings := { a := He.fAd K ("check_standings", none), fd := fd9, F := F9, b := F9.binds fun _ _ _ _ _ _ us hl => match us, hl with | [_, _], _ => rfl, mg := He.glo_ok X0 G (c.fact 32 (f := .glo "check_standings") rfl) },
    d_check_number := { a := He.fAd K ("check_number", none), fd := fd10, F := F10, b := F10.binds fun _ _ _ _ _ _ us hl => match us, hl with | [_, _], _ => rfl, mg := He.glo_ok X0 G (c.fact 33 (f := .glo "check_number") rfl) },
    d_walked := { a := He.fAd K ("walked", none), fd := fd11, F := F11, b := F11.binds fun _ _ _ _ _ _ us hl => match us, hl with | [_, _, _], _ => rfl, mg := He.glo_ok X0 G (c.fact 34 (f := .glo "walked") rfl) },
    d_made := { a := He.fAd K ("made", none), fd := fd12, F := F12, b := F12.binds fun _ _ _ _ _ _ us hl => match us, hl with | [_, _, _], _ => rfl, mg := He.glo_ok X0 G (c.fact 35 (f := .glo "made") rfl) },
    d_is_settled_at := { a := He.fAd K ("is_settled_at", none), fd := fd13, F := F13, b := F13.binds fun _ _ _ _ _ _ us hl => match us, hl with | [_], _ => rfl, mg := He.glo_ok X0 G (c.fact 36 (f := .glo "is_settled_at") rfl) },
    d_is_made_at := { a := He.fAd K ("is_made_at", none), fd := fd14, F := F14, b := F14.binds fun _ _ _ _ _ _ us hl => match us, hl with | [_, _, _], _ => rfl, mg := He.glo_ok X0 G (c.fact 37 (f := .glo "is_made_at") rfl) },
    d_copied := { a := He.fAd K ("copied", none), fd := fd15, F := F15, b := F15.binds fun _ _ _ _ _ _ us hl => match us, hl with | [_], _ => rfl, mg := He.glo_ok X0 G (c.fact 38 (f := .glo "copied") rfl) },
    d_without_needless_ways := { a := He.fAd K ("without_needless_ways", none), fd := fd16, F := F16, b := F16.binds fun _ _ _ _ _ _ us hl => match us, hl with | [_, _], _ => rfl, mg := He.glo_ok X0 G (c.fact 39 (f := .glo "without_needless_ways") rfl) },
    d_numbered := { a := He.fAd K ("numbered", none), fd := fd17, F := F17, b := F17.binds fun _ _ _ _ _ _ us hl => match us, hl with | [_], _ => rfl, mg := He.glo_ok X0 G (c.fact 40 (f := .glo "numbered") rfl) },
    d_parted := { a := He.fAd K ("parted", none), fd := fd18, F := F18, b := F18.binds fun _ _ _ _ _ _ us hl => match us, hl with | [_, _], _ => rfl, mg := He.glo_ok X0 G (c.fact 41 (f := .glo "parted") rfl) },
    d_alike_classes := { a := He.fAd K ("alike_classes", none), fd := fd19, F := F19, b := F19.binds fun _ _ _ _ _ _ us hl => match us, hl with | [_], _ => rfl, mg := He.glo_ok X0 G (c.fact 42 (f := .glo "alike_classes") rfl) },
    d_in_order_met := { a := He.fAd K ("in_order_met", none), fd := fd20, F := F20, b := F20.binds fun _ _ _ _ _ _ us hl => match us, hl with | [_, _], _ => rfl, mg := He.glo_ok X0 G (c.fact 43 (f := .glo "in_order_met") rfl) },
    d_least_form := { a := He.fAd K ("least_form", none), fd := fd21, F := F21, b := F21.binds fun _ _ _ _ _ _ us hl => match us, hl with | [_, _], _ => rfl, mg := He.glo_ok X0 G (c.fact 44 (f := .glo "least_form") rfl) },
    d_check_same_tags := { a := He.fAd K ("check_same_tags", none), fd := fd22, F := F22, b := F22.binds fun _ _ _ _ _ _ us hl => match us, hl with | [_, _], _ => rfl, mg := He.glo_ok X0 G (c.fact 45 (f := .glo "check_same_tags") rfl) },
    d_check_programs := { a := He.fAd K ("check_programs", none), fd := fd23, F := F23, b := F23.binds fun _ _ _ _ _ _ us hl => match us, hl with | [_], _ => rfl, mg := He.glo_ok X0 G (c.fact 46 (f := .glo "check_programs") rfl) },
    d__law_mixed := { a := He.fAd K ("_law_mixed", none), fd := fd24, F := F24, b := F24.binds fun _ _ _ _ _ _ us hl => match us, hl with | [_, _], _ => rfl, mg := He.glo_ok X0 G (c.fact 47 (f := .glo "_law_mixed") rfl) },
    d__law_pile := { a := He.fAd K ("_law_pile", none), fd := fd25, F := F25, b := F25.binds fun _ _ _ _ _ _ us hl => match us, hl with | [_, _], _ => rfl, mg := He.glo_ok X0 G (c.fact 48 (f := .glo "_law_pile") rfl) },
    d__law_take := { a := He.fAd K ("_law_take", none), fd := fd26, F := F26, b := F26.binds fun _ _ _ _ _ _ us hl => match us, hl with | [_, _], _ => rfl, mg := He.glo_ok X0 G (c.fact 49 (f := .glo "_law_take") rfl) },
    d__law_order := { a := He.fAd K ("_law_order", none), fd := fd27, F := F27, b := F27.binds fun _ _ _ _ _ _ us hl => match us, hl with | [_, _], _ => rfl, mg := He.glo_ok X0 G (c.fact 50 (f := .glo "_law_order") rfl) },
    d__law_tags := { a := He.fAd K ("_law_tags", none), fd := fd28, F := F28, b := F28.binds fun _ _ _ _ _ _ us hl => match us, hl with | [_, _], _ => rfl, mg := He.glo_ok X0 G (c.fact 51 (f := .glo "_law_tags") rfl) },
    d__law_word := { a := He.fAd K ("_law_word", none), fd := fd29, F := F29, b := F29.binds fun _ _ _ _ _ _ us hl => match us, hl with | [_, _, _], _ => rfl, mg := He.glo_ok X0 G (c.fact 52 (f := .glo "_law_word") rfl) },
    d__law_standings := { a := He.fAd K ("_law_standings", none), fd := fd30, F := F30, b := F30.binds fun _ _ _ _ _ _ us hl => match us, hl with | [_, _, _, _], _ => rfl, mg := He.glo_ok X0 G (c.fact 53 (f := .glo "_law_standings") rfl) },
    d__law_eaten := { a := He.fAd K ("_law_eaten", none), fd := fd31, F := F31, b := F31.binds fun _ _ _ _ _ _ us hl => match us, hl with | [_, _, _], _ => rfl, mg := He.glo_ok X0 G (c.fact 54 (f := .glo "_law_eaten") rfl) },
    d__law_row_done := { a := He.fAd K ("_law_row_done", none), fd := fd32, F := F32, b := F32.binds fun _ _ _ _ _ _ us hl => match us, hl with | [_, _, _, _], _ => rfl, mg := He.glo_ok X0 G (c.fact 55 (f := .glo "_law_row_done") rfl) },
    d__law_talks := { a := He.fAd K ("_law_talks", none), fd := fd33, F := F33, b := F33.binds fun _ _ _ _ _ _ us hl => match us, hl with | [_, _, _], _ => rfl, mg := He.glo_ok X0 G (c.fact 56 (f := .glo "_law_talks") rfl) },
    d__law_undone := { a := He.fAd K ("_law_undone", none), fd := fd34, F := F34, b := F34.binds fun _ _ _ _ _ _ us hl => match us, hl with | [_], _ => rfl, mg := He.glo_ok X0 G (c.fact 57 (f := .glo "_law_undone") rfl) },
    d__law_box_right := { a := He.fAd K ("_law_box_right", none), fd := fd35, F := F35, b := F35.binds fun _ _ _ _ _ _ us hl => match us, hl with | [_, _, _, _], _ => rfl, mg := He.glo_ok X0 G (c.fact 58 (f := .glo "_law_box_right") rfl) },
    d__law_deed_right := { a := He.fAd K ("_law_deed_right", none), fd := fd36, F := F36, b := F36.binds fun _ _ _ _ _ _ us hl => match us, hl with | [_, _, _, _, _, _], _ => rfl, mg := He.glo_ok X0 G (c.fact 59 (f := .glo "_law_deed_right") rfl) },
    d_law := { a := He.fAd K ("law", none), fd := fd37, F := F37, b := F37.binds fun _ _ _ _ _ _ us hl => match us, hl with | [_], _ => rfl, mg := He.glo_ok X0 G (c.fact 60 (f := .glo "law") rfl) },
    lam_c := He.codeOf K ("without_needless_ways", none),
    lam_P := He.tabOf K (He.codeOf K ("without_needless_ways", none)),
    lam_F := G16,
    e_TagError := He.ga K "TagError",
    me_TagError := He.glo_ok X0 G (c.fact 61 (f := .glo "TagError") rfl),
    e_InvalidTags := He.ga K "InvalidTags",
    me_InvalidTags := He.glo_ok X0 G (c.fact 62 (f := .glo "InvalidTags") rfl),
    d_InvalidTags___init__ := { a := He.fAd K ("InvalidTags", some "__init__"), fd := fd38, F := F38, b := F38.binds fun _ _ _ _ _ _ us hl => match us, hl with | [_, _], _ => rfl },
    xt_InvalidTags := QX.excTB_ok b_x_InvalidTags,
    e_InvalidSubject := He.ga K "InvalidSubject",
    me_InvalidSubject := He.glo_ok X0 G (c.fact 63 (f := .glo "InvalidSubject") rfl),
    d_InvalidSubject___init__ := { a := He.fAd K ("InvalidSubject", some "__init__"), fd := fd39, F := F39, b := F39.binds fun _ _ _ _ _ _ us hl => match us, hl with | [_, _], _ => rfl },
    xt_InvalidSubject := QX.excTB_ok b_x_InvalidSubject,
    e_InvalidEater := He.ga K "InvalidEater",
    me_InvalidEater := He.glo_ok X0 G (c.fact 64 (f := .glo "InvalidEater") rfl),
    d_InvalidEater___init__ := { a := He.fAd K ("InvalidEater", some "__init__"), fd := fd40, F := F40, b := F40.binds fun _ _ _ _ _ _ us hl => match us, hl with | [_, _], _ => rfl },
    xt_InvalidEater := QX.excTB_ok b_x_InvalidEater,
    e_InvalidNumber := He.ga K "InvalidNumber",
    me_InvalidNumber := He.glo_ok X0 G (c.fact 65 (f := .glo "InvalidNumber") rfl),
    d_InvalidNumber___init__ := { a := He.fAd K ("InvalidNumber", some "__init__"), fd := fd41, F := F41, b := F41.binds fun _ _ _ _ _ _ us hl => match us, hl with | [_, _], _ => rfl },
    xt_InvalidNumber := QX.excTB_ok b_x_InvalidNumber,
    e_InvalidPrograms := He.ga K "InvalidPrograms",
    me_InvalidPrograms := He.glo_ok X0 G (c.fact 66 (f := .glo "InvalidPrograms") rfl),
    d_InvalidPrograms___init__ := { a := He.fAd K ("InvalidPrograms", some "__init__"), fd := fd42, F := F42, b := F42.binds fun _ _ _ _ _ _ us hl => match us, hl with | [_, _], _ => rfl },
    xt_InvalidPrograms := QX.excTB_ok b_x_InvalidPrograms,
    e_UnlikeTags := He.ga K "UnlikeTags",
    me_UnlikeTags := He.glo_ok X0 G (c.fact 67 (f := .glo "UnlikeTags") rfl),
    e_NothingToUndo := He.ga K "NothingToUndo",
    me_NothingToUndo := He.glo_ok X0 G (c.fact 68 (f := .glo "NothingToUndo") rfl),
    e_TooMany := He.ga K "TooMany",
    me_TooMany := He.glo_ok X0 G (c.fact 69 (f := .glo "TooMany") rfl),
    d_TooMany___init__ := { a := He.fAd K ("TooMany", some "__init__"), fd := fd43, F := F43, b := F43.binds fun _ _ _ _ _ _ us hl => match us, hl with | [_, _], _ => rfl },
    xt_TooMany := QX.excTB_ok b_x_TooMany,
    ex_InvalidTags := of_decide_eq_true b_e_InvalidTags,
    kv_InvalidTags := of_decide_eq_true b_v_InvalidTags,
    ki_InvalidTags_TagError := of_decide_eq_true b_i_InvalidTags_TagError,
    ki_InvalidTags_InvalidTags := of_decide_eq_true b_i_InvalidTags_InvalidTags,
    ki_InvalidTags_InvalidSubject := of_decide_eq_true b_i_InvalidTags_InvalidSubject,
    ki_InvalidTags_InvalidEater := of_decide_eq_true b_i_InvalidTags_InvalidEater,
    ki_InvalidTags_InvalidNumber := of_decide_eq_true b_i_InvalidTags_InvalidNumber,
    ki_InvalidTags_InvalidPrograms := of_decide_eq_true b_i_InvalidTags_InvalidPrograms,
    ki_InvalidTags_UnlikeTags := of_decide_eq_true b_i_InvalidTags_UnlikeTags,
    ki_InvalidTags_NothingToUndo := of_decide_eq_true b_i_InvalidTags_NothingToUndo,
    ki_InvalidTags_TooMany := of_decide_eq_true b_i_InvalidTags_TooMany,
    ex_InvalidSubject := of_decide_eq_true b_e_InvalidSubject,
    kv_InvalidSubject := of_decide_eq_true b_v_InvalidSubject,
    ki_InvalidSubject_TagError := of_decide_eq_true b_i_InvalidSubject_TagError,
    ki_InvalidSubject_InvalidTags := of_decide_eq_true b_i_InvalidSubject_InvalidTags,
    ki_InvalidSubject_InvalidSubject := of_decide_eq_true b_i_InvalidSubject_InvalidSubject,
    ki_InvalidSubject_InvalidEater := of_decide_eq_true b_i_InvalidSubject_InvalidEater,
    ki_InvalidSubject_InvalidNumber := of_decide_eq_true b_i_InvalidSubject_InvalidNumber,
    ki_InvalidSubject_InvalidPrograms := of_decide_eq_true b_i_InvalidSubject_InvalidPrograms,
    ki_InvalidSubject_UnlikeTags := of_decide_eq_true b_i_InvalidSubject_UnlikeTags,
    ki_InvalidSubject_NothingToUndo := of_decide_eq_true b_i_InvalidSubject_NothingToUndo,
    ki_InvalidSubject_TooMany := of_decide_eq_true b_i_InvalidSubject_TooMany,
    ex_InvalidEater := of_decide_eq_true b_e_InvalidEater,
    kv_InvalidEater := of_decide_eq_true b_v_InvalidEater,
    ki_InvalidEater_TagError := of_decide_eq_true b_i_InvalidEater_TagError,
    ki_InvalidEater_InvalidTags := of_decide_eq_true b_i_InvalidEater_InvalidTags,
    ki_InvalidEater_InvalidSubject := of_decide_eq_true b_i_InvalidEater_InvalidSubject,
    ki_InvalidEater_InvalidEater := of_decide_eq_true b_i_InvalidEater_InvalidEater,
    ki_InvalidEater_InvalidNumber := of_decide_eq_true b_i_InvalidEater_InvalidNumber,
    ki_InvalidEater_InvalidPrograms := of_decide_eq_true b_i_InvalidEater_InvalidPrograms,
    ki_InvalidEater_UnlikeTags := of_decide_eq_true b_i_InvalidEater_UnlikeTags,
    ki_InvalidEater_NothingToUndo := of_decide_eq_true b_i_InvalidEater_NothingToUndo,
    ki_InvalidEater_TooMany := of_decide_eq_true b_i_InvalidEater_TooMany,
    ex_InvalidNumber := of_decide_eq_true b_e_InvalidNumber,
    kv_InvalidNumber := of_decide_eq_true b_v_InvalidNumber,
    ki_InvalidNumber_TagError := of_decide_eq_true b_i_InvalidNumber_TagError,
    ki_InvalidNumber_InvalidTags := of_decide_eq_true b_i_InvalidNumber_InvalidTags,
    ki_InvalidNumber_InvalidSubject := of_decide_eq_true b_i_InvalidNumber_InvalidSubject,
    ki_InvalidNumber_InvalidEater := of_decide_eq_true b_i_InvalidNumber_InvalidEater,
    ki_InvalidNumber_InvalidNumber := of_decide_eq_true b_i_InvalidNumber_InvalidNumber,
    ki_InvalidNumber_InvalidPrograms := of_decide_eq_true b_i_InvalidNumber_InvalidPrograms,
    ki_InvalidNumber_UnlikeTags := of_decide_eq_true b_i_InvalidNumber_UnlikeTags,
    ki_InvalidNumber_NothingToUndo := of_decide_eq_true b_i_InvalidNumber_NothingToUndo,
    ki_InvalidNumber_TooMany := of_decide_eq_true b_i_InvalidNumber_TooMany,
    ex_InvalidPrograms := of_decide_eq_true b_e_InvalidPrograms,
    kv_InvalidPrograms := of_decide_eq_true b_v_InvalidPrograms,
    ki_InvalidPrograms_TagError := of_decide_eq_true b_i_InvalidPrograms_TagError,
    ki_InvalidPrograms_InvalidTags := of_decide_eq_true b_i_InvalidPrograms_InvalidTags,
    ki_InvalidPrograms_InvalidSubject := of_decide_eq_true b_i_InvalidPrograms_InvalidSubject,
    ki_InvalidPrograms_InvalidEater := of_decide_eq_true b_i_InvalidPrograms_InvalidEater,
    ki_InvalidPrograms_InvalidNumber := of_decide_eq_true b_i_InvalidPrograms_InvalidNumber,
    ki_InvalidPrograms_InvalidPrograms := of_decide_eq_true b_i_InvalidPrograms_InvalidPrograms,
    ki_InvalidPrograms_UnlikeTags := of_decide_eq_true b_i_InvalidPrograms_UnlikeTags,
    ki_InvalidPrograms_NothingToUndo := of_decide_eq_true b_i_InvalidPrograms_NothingToUndo,
    ki_InvalidPrograms_TooMany := of_decide_eq_true b_i_InvalidPrograms_TooMany,
    ex_UnlikeTags := of_decide_eq_true b_e_UnlikeTags,
    kv_UnlikeTags := of_decide_eq_true b_v_UnlikeTags,
    ki_UnlikeTags_TagError := of_decide_eq_true b_i_UnlikeTags_TagError,
    ki_UnlikeTags_InvalidTags := of_decide_eq_true b_i_UnlikeTags_InvalidTags,
    ki_UnlikeTags_InvalidSubject := of_decide_eq_true b_i_UnlikeTags_InvalidSubject,
    ki_UnlikeTags_InvalidEater := of_decide_eq_true b_i_UnlikeTags_InvalidEater,
    ki_UnlikeTags_InvalidNumber := of_decide_eq_true b_i_UnlikeTags_InvalidNumber,
    ki_UnlikeTags_InvalidPrograms := of_decide_eq_true b_i_UnlikeTags_InvalidPrograms,
    ki_UnlikeTags_UnlikeTags := of_decide_eq_true b_i_UnlikeTags_UnlikeTags,
    ki_UnlikeTags_NothingToUndo := of_decide_eq_true b_i_UnlikeTags_NothingToUndo,
    ki_UnlikeTags_TooMany := of_decide_eq_true b_i_UnlikeTags_TooMany,
    nx_NothingToUndo := QM2.newXB_ok b_n_NothingToUndo,
    ex_NothingToUndo := of_decide_eq_true b_e_NothingToUndo,
    kv_NothingToUndo := of_decide_eq_true b_v_NothingToUndo,
    ki_NothingToUndo_TagError := of_decide_eq_true b_i_NothingToUndo_TagError,
    ki_NothingToUndo_InvalidTags := of_decide_eq_true b_i_NothingToUndo_InvalidTags,
    ki_NothingToUndo_InvalidSubject := of_decide_eq_true b_i_NothingToUndo_InvalidSubject,
    ki_NothingToUndo_InvalidEater := of_decide_eq_true b_i_NothingToUndo_InvalidEater,
    ki_NothingToUndo_InvalidNumber := of_decide_eq_true b_i_NothingToUndo_InvalidNumber,
    ki_NothingToUndo_InvalidPrograms := of_decide_eq_true b_i_NothingToUndo_InvalidPrograms,
    ki_NothingToUndo_UnlikeTags := of_decide_eq_true b_i_NothingToUndo_UnlikeTags,
    ki_NothingToUndo_NothingToUndo := of_decide_eq_true b_i_NothingToUndo_NothingToUndo,
    ki_NothingToUndo_TooMany := of_decide_eq_true b_i_NothingToUndo_TooMany,
    ex_TooMany := of_decide_eq_true b_e_TooMany,
    kv_TooMany := of_decide_eq_true b_v_TooMany,
    ki_TooMany_TagError := of_decide_eq_true b_i_TooMany_TagError,
    ki_TooMany_InvalidTags := of_decide_eq_true b_i_TooMany_InvalidTags,
    ki_TooMany_InvalidSubject := of_decide_eq_true b_i_TooMany_InvalidSubject,
    ki_TooMany_InvalidEater := of_decide_eq_true b_i_TooMany_InvalidEater,
    ki_TooMany_InvalidNumber := of_decide_eq_true b_i_TooMany_InvalidNumber,
    ki_TooMany_InvalidPrograms := of_decide_eq_true b_i_TooMany_InvalidPrograms,
    ki_TooMany_UnlikeTags := of_decide_eq_true b_i_TooMany_UnlikeTags,
    ki_TooMany_NothingToUndo := of_decide_eq_true b_i_TooMany_NothingToUndo,
    ki_TooMany_TooMany := of_decide_eq_true b_i_TooMany_TooMany,
    c_Eater := He.ga K "Eater",
    m_Eater := He.glo_ok X0 G (c.fact 70 (f := .glo "Eater") rfl),
    cl_Eater := He.cls_ok (c.fact 71 (f := .cls "Eater") rfl),
    oc_Eater := QE.ownB_ok b_own_Eater,
    d_Eater___init__ := { a := He.fAd K ("Eater", some "__init__"), fd := fd44, F := F44, b := F44.binds fun _ _ _ _ _ _ us hl => match us, hl with | [_, _, _], _ => rfl },
    d_Eater___len__ := { a := He.fAd K ("Eater", some "__len__"), fd := fd45, F := F45, b := F45.binds fun _ _ _ _ _ _ us hl => match us, hl with | [_], _ => rfl },
    h_Eater___len__ := He.meth_ok (c.fact 72 (f := .meth "Eater" "__len__") rfl),
    d_Eater___eq__ := { a := He.fAd K ("Eater", some "__eq__"), fd := fd46, F := F46, b := F46.binds fun _ _ _ _ _ _ us hl => match us, hl with | [_, _], _ => rfl },
    h_Eater___eq__ := He.meth_ok (c.fact 73 (f := .meth "Eater" "__eq__") rfl),
    d_Eater___contains__ := { a := He.fAd K ("Eater", some "__contains__"), fd := fd47, F := F47, b := F47.binds fun _ _ _ _ _ _ us hl => match us, hl with | [_, _], _ => rfl },
    h_Eater___contains__ := He.meth_ok (c.fact 74 (f := .meth "Eater" "__contains__") rfl),
    d_Eater_tags := { a := He.fAd K ("Eater", some "tags"), fd := fd48, F := F48, b := F48.binds fun _ _ _ _ _ _ us hl => match us, hl with | [_], _ => rfl },
    h_Eater_tags := He.meth_ok (c.fact 75 (f := .meth "Eater" "tags") rfl),
    d_Eater_standings := { a := He.fAd K ("Eater", some "standings"), fd := fd49, F := F49, b := F49.binds fun _ _ _ _ _ _ us hl => match us, hl with | [_], _ => rfl },
    h_Eater_standings := He.meth_ok (c.fact 76 (f := .meth "Eater" "standings") rfl),
    d_Eater_on := { a := He.fAd K ("Eater", some "on"), fd := fd50, F := F50, b := F50.binds fun _ _ _ _ _ _ us hl => match us, hl with | [_, _], _ => rfl },
    h_Eater_on := He.meth_ok (c.fact 77 (f := .meth "Eater" "on") rfl),
    d_Eater_settled := { a := He.fAd K ("Eater", some "settled"), fd := fd51, F := F51, b := F51.binds fun _ _ _ _ _ _ us hl => match us, hl with | [_, _], _ => rfl },
    h_Eater_settled := He.meth_ok (c.fact 78 (f := .meth "Eater" "settled") rfl),
    d_Eater_then := { a := He.fAd K ("Eater", some "then"), fd := fd52, F := F52, b := F52.binds fun _ _ _ _ _ _ us hl => match us, hl with | [_, _], _ => rfl },
    h_Eater_then := He.meth_ok (c.fact 79 (f := .meth "Eater" "then") rfl),
    d_Eater_power := { a := He.fAd K ("Eater", some "power"), fd := fd53, F := F53, b := F53.binds fun _ _ _ _ _ _ us hl => match us, hl with | [_, _], _ => rfl },
    h_Eater_power := He.meth_ok (c.fact 80 (f := .meth "Eater" "power") rfl),
    mk_Eater := He.mkr_ok (c.fact 81 (f := .mkr "Eater") rfl),
    na_Eater__standings := He.noat_ok (c.fact 82 (f := .noat "Eater" "_standings") rfl),
    na_Eater__tags := He.noat_ok (c.fact 83 (f := .noat "Eater" "_tags") rfl),
    c_Mailbox := He.ga K "Mailbox",
    m_Mailbox := He.glo_ok X0 G (c.fact 84 (f := .glo "Mailbox") rfl),
    cl_Mailbox := He.cls_ok (c.fact 85 (f := .cls "Mailbox") rfl),
    d_Mailbox___init__ := { a := He.fAd K ("Mailbox", some "__init__"), fd := fd54, F := F54, b := F54.binds fun _ _ _ _ _ _ us hl => match us, hl with | [_, _, _], _ => rfl },
    d_Mailbox___len__ := { a := He.fAd K ("Mailbox", some "__len__"), fd := fd55, F := F55, b := F55.binds fun _ _ _ _ _ _ us hl => match us, hl with | [_], _ => rfl },
    h_Mailbox___len__ := He.meth_ok (c.fact 86 (f := .meth "Mailbox" "__len__") rfl),
    d_Mailbox___getitem__ := { a := He.fAd K ("Mailbox", some "__getitem__"), fd := fd56, F := F56, b := F56.binds fun _ _ _ _ _ _ us hl => match us, hl with | [_, _], _ => rfl },
    h_Mailbox___getitem__ := He.meth_ok (c.fact 87 (f := .meth "Mailbox" "__getitem__") rfl),
    d_Mailbox___iter__ := { a := He.fAd K ("Mailbox", some "__iter__"), fd := fd57, F := F57, b := F57.binds fun _ _ _ _ _ _ us hl => match us, hl with | [_], _ => rfl },
    h_Mailbox___iter__ := He.meth_ok (c.fact 88 (f := .meth "Mailbox" "__iter__") rfl),
    d_Mailbox_begin := { a := He.fAd K ("Mailbox", some "begin"), fd := fd58, F := F58, b := F58.binds fun _ _ _ _ _ _ us hl => match us, hl with | [_, _], _ => rfl },
    h_Mailbox_begin := He.meth_ok (c.fact 89 (f := .meth "Mailbox" "begin") rfl),
    d_Mailbox_answer := { a := He.fAd K ("Mailbox", some "answer"), fd := fd59, F := F59, b := F59.binds fun _ _ _ _ _ _ us hl => match us, hl with | [_, _, _], _ => rfl },
    h_Mailbox_answer := He.meth_ok (c.fact 90 (f := .meth "Mailbox" "answer") rfl),
    d_Mailbox_key_of := { a := He.fAd K ("Mailbox", some "key_of"), fd := fd60, F := F60, b := F60.binds fun _ _ _ _ _ _ us hl => match us, hl with | [_, _], _ => rfl },
    h_Mailbox_key_of := He.meth_ok (c.fact 91 (f := .meth "Mailbox" "key_of") rfl),
    d_Mailbox_talk := { a := He.fAd K ("Mailbox", some "talk"), fd := fd61, F := F61, b := F61.binds fun _ _ _ _ _ _ us hl => match us, hl with | [_, _], _ => rfl },
    h_Mailbox_talk := He.meth_ok (c.fact 92 (f := .meth "Mailbox" "talk") rfl),
    d_Mailbox_talks := { a := He.fAd K ("Mailbox", some "talks"), fd := fd62, F := F62, b := F62.binds fun _ _ _ _ _ _ us hl => match us, hl with | [_], _ => rfl },
    h_Mailbox_talks := He.meth_ok (c.fact 93 (f := .meth "Mailbox" "talks") rfl),
    d_Mailbox_tried := { a := He.fAd K ("Mailbox", some "tried"), fd := fd63, F := F63, b := F63.binds fun _ _ _ _ _ _ us hl => match us, hl with | [_, _, _], _ => rfl },
    h_Mailbox_tried := He.meth_ok (c.fact 94 (f := .meth "Mailbox" "tried") rfl),
    d_Mailbox_undo := { a := He.fAd K ("Mailbox", some "undo"), fd := fd64, F := F64, b := F64.binds fun _ _ _ _ _ _ us hl => match us, hl with | [_], _ => rfl },
    h_Mailbox_undo := He.meth_ok (c.fact 95 (f := .meth "Mailbox" "undo") rfl),
    d_Mailbox_trial := { a := He.fAd K ("Mailbox", some "trial"), fd := fd65, F := F65, b := F65.binds fun _ _ _ _ _ _ us hl => match us, hl with | [_], _ => rfl },
    h_Mailbox_trial := He.meth_ok (c.fact 96 (f := .meth "Mailbox" "trial") rfl),
    d_Mailbox__come := { a := He.fAd K ("Mailbox", some "_come"), fd := fd66, F := F66, b := F66.binds fun _ _ _ _ _ _ us hl => match us, hl with | [_, _], _ => rfl },
    h_Mailbox__come := He.meth_ok (c.fact 97 (f := .meth "Mailbox" "_come") rfl),
    d_Mailbox__answered := { a := He.fAd K ("Mailbox", some "_answered"), fd := fd67, F := F67, b := F67.binds fun _ _ _ _ _ _ us hl => match us, hl with | [_, _, _], _ => rfl },
    h_Mailbox__answered := He.meth_ok (c.fact 98 (f := .meth "Mailbox" "_answered") rfl),
    d_Mailbox__with_key := { a := He.fAd K ("Mailbox", some "_with_key"), fd := fd68, F := F68, b := F68.binds fun _ _ _ _ _ _ us hl => match us, hl with | [_, _], _ => rfl },
    h_Mailbox__with_key := He.meth_ok (c.fact 99 (f := .meth "Mailbox" "_with_key") rfl),
    mk_Mailbox := He.mkr_ok (c.fact 100 (f := .mkr "Mailbox") rfl),
    na_Mailbox__key := He.noat_ok (c.fact 101 (f := .noat "Mailbox" "_key") rfl),
    na_Mailbox__letters := He.noat_ok (c.fact 102 (f := .noat "Mailbox" "_letters") rfl),
    na_Mailbox__programs := He.noat_ok (c.fact 103 (f := .noat "Mailbox" "_programs") rfl) }, rfl, rfl, rfl⟩
end Law
end

section
set_option Elab.async false
set_option linter.all false
set_option maxRecDepth 100000
set_option maxHeartbeats 0
namespace Law
open PySem PySem.Spec PyProof.Rows L2 LamX QB QM
abbrev R : PySem.W.OpenRow := PySem.W.OpenLaw.row PySem.Challenge.rw_subjecttags_k50_whole_mailboxes
def tfs : List He.Defn := [("without_needless_ways", none)]
abbrev hk : PySem.W.Hook := He.hookX 5 fas dds [] tfs exB
def ob (s : PySem.W.SharedT) : He.AlX := He.obsX 5 fas dds [] tfs exB (HandSHeadRun.getT s)
theorem ob_eq (s : PySem.W.SharedT) : ob s = hk.obs s.abs := He.obsX_eq (HandSHeadRun.getT_eq s)
def names : List Str := (["_wall", "TagError", "InvalidTags", "InvalidSubject", "InvalidEater", "InvalidNumber", "InvalidPrograms", "UnlikeTags", "NothingToUndo", "TooMany", "LETTERS", "MOST_LETTERS", "MOST_TAGS", "MOST_STANDINGS", "LONGEST_WORD", "LONGEST_SUBJECT", "is_number", "is_list", "is_name", "is_tag"] : List Str) ++ (["is_subject", "is_standing", "check_tags", "check_word", "check_standings", "check_number", "walked", "made", "is_settled_at", "is_made_at", "copied", "without_needless_ways", "numbered", "parted", "alike_classes", "in_order_met", "least_form", "Eater", "check_same_tags", "MOST_PROGRAMS"] : List Str) ++ (["check_programs", "Mailbox", "_law_mixed", "_law_pile", "_law_take", "_law_order", "_law_tags", "_law_word", "_law_standings", "_law_eaten", "_law_row_done", "_law_talks", "_law_undone", "_law_box_right", "_law_deed_right"] : List Str)
theorem run (w : World) : HandSHeadRun.RunEq R (PySem.W.view R.prog [62]) hk ob 8000 names w := by
  intro os
  kernel_rfl
end Law
end

section
set_option Elab.async false
set_option linter.all false
set_option maxRecDepth 100000
set_option maxHeartbeats 0
namespace Law
open PySem PySem.W PySem.Calls PyProof.Rows
theorem hd1 : opening R.prog = plainProg R.prog.main.scope.names := by kernel_rfl
theorem hd2 (s : PySem.Shared) : fenceModules? R.prog s = some s := by kernel_rfl
theorem hd3 : defOf (view R.prog [62]) R.name = some (HandSHeadRun.topDef R.prog 62, []) := by kernel_rfl
theorem hd4 : R.prog.theDef R.name = some ((HandSHeadRun.topDef R.prog 62).params, (HandSHeadRun.topDef R.prog 62).body, (HandSHeadRun.topDef R.prog 62).scope) := by kernel_rfl
theorem hd5 : kwWritten? (HandSHeadRun.topDef R.prog 62).params.kwonlyargs (HandSHeadRun.topDef R.prog 62).params.kw_defaults = some [] := by kernel_rfl
theorem hd6 : (!R.writes || R.records.isEmpty) = true := by rfl
theorem hd7 : R.wellSaid = true := by decide +kernel
theorem hd8 : (chainsOk (view R.prog [62]) && opensWell R.prog && (frees R.toRowW && R.within.isEmpty)) = true := by decide +kernel
theorem hd9 : R.prog.bare := ⟨rfl, rfl, rfl, rfl, rfl, by decide +kernel⟩
theorem hd10 : (HandSHeadRun.topDef R.prog 62).name = ("law" : PySem.Str) := by kernel_rfl
theorem hd11 : (HandSHeadRun.topDef R.prog 62).params.defaults = [] := by kernel_rfl
end Law
namespace Law
open PySem PySem.W PySem.Calls PyProof.Rows
theorem hd12 : importsNone (view R.prog [62]) = true := by decide +kernel
end Law
end

section
set_option Elab.async false
set_option linter.all false
set_option maxRecDepth 100000
set_option maxHeartbeats 0
namespace Law
open PySem PySem.Spec PyProof.Rows L2 LamX QB QM
theorem law_at (w : World) (mg : Str → Option Value) (fa : Addr) (h : Heap) (Y : hk.says w h) (G : h.Ns mainGlobals mg) (hmg : mg ("law" : Str) = some (.ref fa)) :
    ∃ K : PySem.W.Frag, K.In h ∧ QT.LawG PySem.Challenge.rw_subjecttags_k50_whole_mailboxes w K CX0 63 "script" mg fa h := by
  obtain ⟨K, KX, c⟩ := Y
  obtain ⟨X, e1, e2, e3⟩ := tx_mk KX G c.t.d c.more
  have e4 := hmg.symm.trans X.d_law.mg
  have e5 : fa = X.d_law.a := by
    injection e4 with e4
    injection e4
  subst e5
  have hm : (((("without_needless_ways" : Str), (none : Option Str)) : He.Defn)) ∈ tfs := List.mem_singleton.mpr rfl
  have h1 := c.hd _ hm
  have h2 := c.out _ hm
  have h3 := c.empty _ hm
  have c1 : (He.cT K (("without_needless_ways" : Str), (none : Option Str))) = (X.lam_c, X.lam_P) := by rw [e1, e2]; rfl
  rw [c1] at h1 h2 h3
  have hb : ∀ (s : Shared) (u : Value), BindsTo s X.d_law.fd ⟨[u], []⟩ [("script", u)] := by
    obtain ⟨oc, od, kV, doc, pm, an, cdv, ct, osl, hf, _, _⟩ := X.d_law.F.ex
    intro s u
    rw [hf]
    exact .of_eq rfl
  refine ⟨K, KX, X.d_law.fd, [(X.lam_c, X.lam_P)], spLaw K (Tof X), ?_, ?_, ?_, hb, ?_, ?_⟩
  · intro p hp
    rw [List.mem_singleton.mp hp]
    exact h3
  · intro p hp
    rw [List.mem_singleton.mp hp]
    exact h2
  · intro p hp
    rw [List.mem_singleton.mp hp]
    exact PySem.W.codeHd_of_K KX h1
  · intro H a ns hl hT hS
    refine ⟨a, ns, rfl, hS, fun q hq => ?_, fun _ => rfl⟩
    rw [List.mem_singleton.mp hq]
    exact ⟨#[], hT _ (List.mem_singleton.mpr rfl), by simp [TriplesOk], fun pos cv h => by cases h⟩
  · intro base _ _ hB TB
    exact ok_law X (TB _ (List.mem_singleton.mpr rfl)) hB ⟨rfl, by decide, by decide⟩
end Law
open PySem PySem.W PySem.Calls PyProof.Rows
theorem k50_end : PySem.Challenge.rw_subjecttags_k50_whole_mailboxes.Holds := by
  w_on; o_law
  refine HandSHeadRun.head_any (r := Law.R) (q := view Law.R.prog [62]) (H := Law.hk) (ob := Law.ob) (M := 8000) (loose := Law.names) (d := HandSHeadRun.topDef Law.R.prog 62) (kwd := []) Law.ob_eq
    Law.hd1 Law.hd2 Law.run Law.hd3 Law.hd4 Law.hd5 Law.hd6 Law.hd7 Law.hd8 Law.hd9 ?hw ?hc
  case hw => w_witness2
  case hc =>
    refine QT.walk_ofG (l := PySem.Challenge.rw_subjecttags_k50_whole_mailboxes) (n := 63) (x := "script") (CX := fun _ => L2.CX0) rfl (by decide) Law.hd11 Law.hd12 ?F (fun _ _ _ _ _ z => z)
    intro w mg fa h Y G hmg0
    rw [Law.hd10] at hmg0
    exact Law.law_at w mg fa h Y G hmg0
end

theorem PySem.Challenge.cw_subjecttags_k50_whole_mailboxes_holds : PySem.Challenge.rw_subjecttags_k50_whole_mailboxes.Holds := by
  exact k50_end

import PyProof.Rows.All
import Wide.All
import OpenK.AllK
import Wide.FinOn
import HandS.ForMost
import KE.KeyNested
import HandS.TupLen
import HandS.Lambda
import HandS.Nested
import HandS.Conv
import KE.KLam
import KE.SortKeyHeap
import KE.SortData
import HandS.Walk
import HandS.IsInst
import HandS.Sort
import HandS.OwnEq
import HandS.Style
import HandS.Text
import KE.KStateDown
import Lean
import HandS.Base
import HandS.Call
import HandS.Ends
import HandS.More
import HandS.Words
import HandS.WordsExc
import HandS.Defaults
import HandS.Head0
import HandS.Head1
import HandS.Head2
import HandS.HeadEnd
import HandS.HeadHook1
import HandS.HeadHook2
import HandS.HeadHook3
import HandS.HeadHook4
import HandS.HeadWalk
import HandS.Exc
import HandS.ExcInit
import HandS.ExcIs
import HandS.ExcField
import HandS.ExcValue
import HandS.SuiteRaise
import KE.KExcIs
import PyProof.ReprRoads
import PyProof.ReprLen
import HandS.List
import HandS.EndTab
import HandS.Wide
import KE.DataEq
import PySem.Challenge.RW_subjecttags_k60_subjects_as_text
set_option Elab.async false
section
set_option Elab.async false
set_option linter.all false
set_option maxRecDepth 100000
/-! dicts whose keys are tuples of any depth (None, ints, texts, tuples): get, in, not in, put, made empty -/
namespace QD
open PySem PySem.Spec PyProof.Rows L2

mutual
inductive NV (H : Hp) : NestedKey → V → Prop
  | none : NV H .none .non
  | num (i : Int) : NV H (.num i) (.int i)
  | text (x : Str) : NV H (.text x) (.str x)
  | tup {a : Addr} {vs : List V} {ks : List NestedKey} : H a = some (.tup vs) → NVs H ks vs → NV H (.tup ks) (.ref a)
inductive NVs (H : Hp) : List NestedKey → List V → Prop
  | nil : NVs H [] []
  | cons {k : NestedKey} {v : V} {ks : List NestedKey} {vs : List V} : NV H k v → NVs H ks vs → NVs H (k :: ks) (v :: vs)
end
mutual
theorem NV.to {H H' : Hp} (t : ∀ b xs, H b = some (.tup xs) → H' b = some (.tup xs)) : ∀ (k : NestedKey) (v : V), NV H k v → NV H' k v
  | .none, _, h => by cases h; exact .none
  | .num _, _, h => by cases h; exact .num _
  | .text _, _, h => by cases h; exact .text _
  | .tup ks, _, h => by
    cases h with
    | tup h1 h2 => exact .tup (t _ _ h1) (NVs.to t ks _ h2)
theorem NVs.to {H H' : Hp} (t : ∀ b xs, H b = some (.tup xs) → H' b = some (.tup xs)) : ∀ (ks : List NestedKey) (vs : List V), NVs H ks vs → NVs H' ks vs
  | [], _, h => by cases h; exact .nil
  | k :: ks, _, h => by
    cases h with
    | cons h1 h2 => exact .cons (NV.to t k _ h1) (NVs.to t ks _ h2)
end
section
variable {P : Program} {w : World} {H : Hp} {h : Heap}
mutual
theorem NV.is (ok : HOk P w H h) : ∀ (k : NestedKey) (v : V) (u : Value), NV H k v → RelV v u → NestedIs h k u
  | .none, _, u, n, r => by
    cases n
    have r : u = Value.none := r
    subst r
    exact .none
  | .num _, _, u, n, r => by
    cases n
    obtain ⟨t, r⟩ := r
    subst r
    exact .int _ _
  | .text _, _, u, n, r => by
    cases n
    obtain ⟨t, r⟩ := r
    subst r
    exact .text _ _
  | .tup ks, _, u, n, r => by
    cases n with
    | @tup a vs _ h1 h2 =>
      obtain rfl : u = Value.ref a := r
      obtain ⟨_, its, rv, o, e1, e2, n, e3⟩ := (show ObjOk P w H h a (.tup vs) from ok a _ h1)
      exact .tup e1 e2 e3 (by simpa using NVs.is ok ks vs its h2 rv)
theorem NVs.is (ok : HOk P w H h) : ∀ (ks : List NestedKey) (vs : List V) (us : List Value), NVs H ks vs → Vals vs us → NestedAll h ks us
  | [], _, us, n, r => by
    cases n
    cases r
    exact .nil
  | k :: ks, _, us, n, r => by
    cases n with
    | cons n1 n2 =>
      cases r with
      | cons r1 r2 => exact .cons (NV.is ok k _ _ n1 r1) (NVs.is ok ks _ _ n2 r2)
end
end

/-- what the dict's own object says -/
def Dφ (P : Program) (w : World) (a : Addr) (xs : List (NestedKey × Addr × Value)) : Heap → Prop := fun h =>
  ∃ o es ep, h.get? a = some o ∧ o.ExactDict ∧ o.data = .dict es ep ∧ es.toList = xs.map (entryOfKey (nestedKind P w)) ∧ (xs.map (·.1)).Nodup ∧ xs.length ≤ sizeLine
abbrev Ent (H : Hp) : NestedKey × V → NestedKey × Addr × Value → Prop := fun p q => p.1 = q.1 ∧ NV H p.1 (.ref q.2.1) ∧ p.1.depth ≤ 8 ∧ RelV p.2 q.2.2
/-- at a stands a dict of these keys and values, in their order -/
def DN (P : Program) (w : World) (H : Hp) (a : Addr) (kvs : List (NestedKey × V)) : Prop :=
  (a == sysModules) = false ∧ ∃ xs, H a = some (.ext (Dφ P w a xs)) ∧ Paired (Ent H) kvs xs

theorem DN.to {P : Program} {w : World} {H H' : Hp} {a : Addr} {kvs : List (NestedKey × V)} (d : DN P w H a kvs) (t : ∀ b xs, H b = some (.tup xs) → H' b = some (.tup xs)) (e : H' a = H a) : DN P w H' a kvs := by
  obtain ⟨n, xs, h1, h2⟩ := d
  exact ⟨n, xs, by rw [e]; exact h1, Paired.mapP h2 fun p q z => ⟨z.1, z.2.1.to t, z.2.2⟩⟩

section
variable {H : Hp}
theorem ent_val {kvs : List (NestedKey × V)} {xs : List (NestedKey × Addr × Value)} (r : Paired (Ent H) kvs xs) (k : NestedKey) : RelO (valV kvs k) ((atKey xs k).map (·.2)) := by
  induction r with
  | nil => exact True.intro
  | @cons p q ps qs h t ih =>
    obtain ⟨h1, _, _, h2⟩ := h
    by_cases e : p.1 = k
    · have e' : q.1 = k := h1.symm.trans e
      have b : atKey (q :: qs) k = some q.2 := by simp [atKey, List.find?_cons, e']
      rw [valV_pos e, b]
      exact h2
    · have e' : ¬ q.1 = k := fun z => e (h1.trans z)
      have b : atKey (q :: qs) k = atKey qs k := by simp [atKey, List.find?_cons, e']
      rw [valV_neg e, b]
      exact ih
theorem ent_repl {kvs : List (NestedKey × V)} {xs : List (NestedKey × Addr × Value)} (r : Paired (Ent H) kvs xs) (k : NestedKey) {y : V} {u : Value} (ry : RelV y u) :
    Paired (Ent H) (kvs.map fun kv => if kv.1 = k then (kv.1, y) else kv) (xs.map (putAt k u)) := by
  induction r with
  | nil => exact .nil
  | @cons p q ps qs h t ih =>
    rw [List.map_cons, List.map_cons]
    refine .cons ?_ ih
    obtain ⟨h1, h2, h3, h4⟩ := h
    unfold putAt
    by_cases e : p.1 = k
    · rw [if_pos e, if_pos (h1.symm.trans e)]
      exact ⟨h1, h2, h3, ry⟩
    · rw [if_neg e, if_neg (fun z => e (h1.trans z))]
      exact ⟨h1, h2, h3, h4⟩
theorem ent_put {kvs : List (NestedKey × V)} {xs : List (NestedKey × Addr × Value)} (r : Paired (Ent H) kvs xs) (k : NestedKey) {b : Addr} {y : V} {u : Value} (hb : NV H k (.ref b)) (hd : k.depth ≤ 8) (ry : RelV y u) :
    Paired (Ent H) (putK kvs k y) (storedH xs k b u) := by
  have e : (kvs.any fun kv => decide (kv.1 = k)) = (atKey xs k).isSome := by
    rw [valV_any, (ent_val r k).isSome_eq, Option.isSome_map]
  unfold putK storedH
  rw [e]
  by_cases q : (atKey xs k).isSome = true
  · rw [if_pos q, if_pos q]
    exact ent_repl r k ry
  · rw [if_neg q, if_neg q]
    exact Paired.snoc r ⟨rfl, hb, hd, ry⟩
end

section
variable {P : Program} {w : World} {H : Hp} {h : Heap} {a : Addr} {kvs : List (NestedKey × V)}
theorem ent_is (ok : HOk P w H h) {xs : List (NestedKey × Addr × Value)} (r : Paired (Ent H) kvs xs) : ∀ x ∈ xs, (nestedKind P w).is h x.1 x.2.1 := by
  induction r with
  | nil => intro x hx; exact nomatch hx
  | @cons p q ps qs hq t ih =>
    intro x hx
    rcases List.mem_cons.mp hx with e | hx
    · subst e
      obtain ⟨e1, e2, e3, _⟩ := hq
      rw [e1] at e2 e3
      exact ⟨NV.is ok _ _ _ e2 rfl, e3⟩
    · exact ih x hx
theorem dn_of (ok : HOk P w H h) {xs : List (NestedKey × Addr × Value)} (e : H a = some (.ext (Dφ P w a xs))) (r : Paired (Ent H) kvs xs) : h.DictOfH (nestedKind P w) a xs ∧ xs.length ≤ sizeLine := by
  obtain ⟨⟨o, es, ep, h1, h2, h3, h4, h5, h6⟩, _, _⟩ := ok a _ e
  exact ⟨⟨o, es, ep, h1, h2, h3, h4, ent_is ok r, h5⟩, h6⟩
theorem key_is (ok : HOk P w H h) {k : NestedKey} {b : Addr} (n : NV H k (.ref b)) (hd : k.depth ≤ 8) : (nestedKind P w).is h k b := ⟨NV.is ok _ _ _ n rfl, hd⟩
theorem dn_ok {h' : Heap} {H' : Hp} {xs : List (NestedKey × Addr × Value)} (d : h'.DictOfH (nestedKind P w) a xs) (z : xs.length ≤ sizeLine) : ObjOk P w H' h' a (.ext (Dφ P w a xs)) := by
  obtain ⟨o, es, ep, h1, h2, h3, h4, _, h5⟩ := d
  exact ⟨⟨o, es, ep, h1, h2, h3, h4, h5, z⟩, ⟨o, h1⟩, fun g1 g2 ⟨o, es, ep, k1, k2⟩ st => ⟨o, es, ep, st _ k1, k2⟩⟩
end

section
variable {X : Cx} {o i value : Expr} {td ty tv : TE} {pos pos' : Pos}
/-- {} -/
def tNewN (X : Cx) : TE := fun _ H Q => ∀ p H', H p = none → (∀ b, b ≠ p → H' b = H b) → DN X.prog X.w H' p [] → H' p ≠ none → Q (.ref p) H'
theorem pe_newN : PE X (.Dict [] [] pos) (tNewN X) := ⟨fun pins s σ H Q I h => by
  have nm : (s.heap.objs.size == sysModules) = false := by
    have q := I.big
    refine beq_eq_false_iff_ne.mpr fun e => ?_
    rw [show s.heap.objs.size = sysModules from e] at q
    exact Nat.lt_irrefl _ q
  have new : ObjOk X.prog X.w (upd H s.heap.objs.size (.ext (Dφ X.prog X.w s.heap.objs.size []))) (s.heap.push { cls := .type "dict", data := .dict #[] }) s.heap.objs.size (.ext (Dφ X.prog X.w s.heap.objs.size [])) :=
    dn_ok (Heap.DictOfH.new s.heap) (Nat.zero_le _)
  exact wpAny_Dict_empty ⟨.ref s.heap.objs.size, _, I.laid (a := s.heap.objs.size) (t' := s.toks) (fun _ _ q => Heap.get?_push_of_some _ q) (Nat.le_refl _) new, rfl,
    h _ _ (I.hok.fresh (Nat.le_refl _)) (fun b hb => upd_ne hb) ⟨nm, [], upd_same, .nil⟩ (by rw [upd_same]; exact fun z => nomatch z)⟩⟩

/-- d[k], there; k in d; k not in d -/
def tGetN (X : Cx) (td ty : TE) : TE := fun σ H Q => td σ H fun x H1 => ty σ H1 fun y H2 => ∃ a b kvs k v, x = .ref a ∧ y = .ref b ∧ DN X.prog X.w H2 a kvs ∧ NV H2 k (.ref b) ∧ k.depth ≤ 8 ∧ valV kvs k = some v ∧ Q v H2
def tInN (X : Cx) (neg : Bool) (ty td : TE) : TE := fun σ H Q => ty σ H fun y H1 => td σ H1 fun x H2 => ∃ a b kvs k, x = .ref a ∧ y = .ref b ∧ DN X.prog X.w H2 a kvs ∧ NV H2 k (.ref b) ∧ k.depth ≤ 8 ∧ Q (.bl (if neg then !(valV kvs k).isSome else (valV kvs k).isSome)) H2
theorem room_in1 {A : Around} {P : Program} {w : World} (hu : A.units + 64 < cLine) : (nestedKind P w).room A.in1 := by
  show A.units + 1 + 8 < cLine
  omega
theorem pe_getN (hu : X.A.units + 64 < cLine) (ho : PE X o td) (hi : PE X i ty) (hs : NoSl i) : PE X (.Subscript o i pos) (tGetN X td ty) := by
  refine ⟨fun pins s σ H Q I h => ?_⟩
  refine subD_of PySem.F.slot_dict_getitem.lookup hs (thn (ho.run pins s σ H _ I h) fun u s1 ⟨x, H1, I1, rx, q1⟩ => thn (hi.run pins s1 σ H1 _ I1 q1) fun iv s2 ⟨y, H2, I2, ry, a, b, kvs, k, v, ex, ey, ⟨nm, xs, d1, d2⟩, n, kd, hv, q2⟩ => ?_)
  subst ex ey
  obtain rfl : u = Value.ref a := rx
  obtain rfl : iv = Value.ref b := ry
  obtain ⟨dd, z⟩ := dn_of I2.hok d1 d2
  refine ⟨dd.typeIs, ?_⟩
  obtain ⟨w', hw, rw'⟩ := RelO.some_of (v := v) (o := (atKey xs k).map (·.2)) (by rw [← hv]; exact ent_val d2 k)
  obtain ⟨p, hp, hp2⟩ := Option.map_eq_some_iff.mp hw
  refine wpAny_getItem_heap (room_in1 hu) (key_is I2.hok n kd) dd hp ?_
  rw [hp2]
  exact ⟨v, H2, I2.tok _, rw', q2⟩
theorem pc_inN (hu : X.A.units + 64 < cLine) (hi : PE X i ty) (ho : PE X o td) : PC X .In i o (tInN X false ty td) := by
  refine ⟨fun pins s σ H Q I h => ?_⟩
  refine thn (hi.run pins s σ H _ I h) fun iv s1 ⟨y, H1, I1, ry, q1⟩ => thn (ho.run pins s1 σ H1 _ I1 q1) fun u s2 ⟨x, H2, I2, rx, a, b, kvs, k, ex, ey, ⟨nm, xs, d1, d2⟩, n, kd, q2⟩ => ?_
  subst ex ey
  obtain rfl : u = Value.ref a := rx
  obtain rfl : iv = Value.ref b := ry
  obtain ⟨dd, z⟩ := dn_of I2.hok d1 d2
  refine wpAny_in_heap (room_in1 hu) (key_is I2.hok n kd) nm dd ⟨.bl (atKey xs k).isSome, H2, I2.tok _, rfl, ?_⟩
  have e := (ent_val d2 k).isSome_eq
  rw [Option.isSome_map] at e
  rw [← e]
  exact q2
theorem pc_notinN (hu : X.A.units + 64 < cLine) (hi : PE X i ty) (ho : PE X o td) : PC X .NotIn i o (tInN X true ty td) := by
  refine ⟨fun pins s σ H Q I h => ?_⟩
  refine thn (hi.run pins s σ H _ I h) fun iv s1 ⟨y, H1, I1, ry, q1⟩ => thn (ho.run pins s1 σ H1 _ I1 q1) fun u s2 ⟨x, H2, I2, rx, a, b, kvs, k, ex, ey, ⟨nm, xs, d1, d2⟩, n, kd, q2⟩ => ?_
  subst ex ey
  obtain rfl : u = Value.ref a := rx
  obtain rfl : iv = Value.ref b := ry
  obtain ⟨dd, z⟩ := dn_of I2.hok d1 d2
  refine wpAny_notIn_heap (room_in1 hu) (key_is I2.hok n kd) nm dd ⟨.bl (!(atKey xs k).isSome), H2, I2.tok _, rfl, ?_⟩
  have e := (ent_val d2 k).isSome_eq
  rw [Option.isSome_map] at e
  rw [← e]
  exact q2
/-- d[k] = v -/
def sPutN (X : Cx) (td ty tv : TE) : TS := fun D σ H => tv σ H fun v H1 => td σ H1 fun x H2 => ty σ H2 fun y H3 => ∃ a b kvs k, x = .ref a ∧ y = .ref b ∧ DN X.prog X.w H3 a kvs ∧ NV H3 k (.ref b) ∧ k.depth ≤ 8 ∧ kvs.length < sizeLine ∧
  ∀ H4, (∀ c, c ≠ a → H4 c = H3 c) → DN X.prog X.w H4 a (putK kvs k v) → H4 a ≠ none → D.nx σ H4
theorem ps_putN (hu : X.A.units + 64 < cLine) (ho : PE X o td) (hi : PE X i ty) (hv : PE X value tv) (hs : swapsWith value (some (.Subscript o i pos')) pos.line X.env = pure false) :
    PS X (.Assign [.Subscript o i pos'] value pos) (sPutN X td ty tv) := by
  refine ⟨fun pins s σ H D I h => ?_⟩
  refine wpAny_Assign_Subscript (thn (hv.run pins s σ H _ I h) fun r s1 ⟨v, H1, I1, rv, q1⟩ => thn (ho.run pins s1 σ H1 _ I1 q1) fun u s2 ⟨x, H2, I2, rx, q2⟩ => thn (hi.run pins s2 σ H2 _ I2 q2) fun iv s3 ⟨y, H3, I3, ry, a, b, kvs, k, ex, ey, ⟨nm, xs, d1, d2⟩, n, kd, hl, q3⟩ => ?_) hs
  subst ex ey
  obtain rfl : u = Value.ref a := rx
  obtain rfl : iv = Value.ref b := ry
  obtain ⟨dd, z⟩ := dn_of I3.hok d1 d2
  refine wpAny_setItem_heap (hsz := z) (room_in1 hu) (key_is I3.hok n kd) dd fun h' dd' hs => ?_
  have ep := ent_put d2 k n kd (y := v) (u := r) rv
  have hl' : (storedH xs k b r).length ≤ sizeLine := by
    rw [← Paired.length ep]
    have := length_putK kvs k v
    omega
  have tk : ∀ c ys, H3 c = some (.tup ys) → upd H3 a (.ext (Dφ X.prog X.w a (storedH xs k b r))) c = some (.tup ys) := fun c ys e => by
    rw [upd_ne (ne_of e d1 (fun z => nomatch z))]
    exact e
  have he : ∃ q, h'.get? a = some q := let ⟨q, _, _, hq, _⟩ := dd'; ⟨q, hq⟩
  refine ⟨σ, _, d_write (ob := .ext (Dφ X.prog X.w a (storedH xs k b r))) I3 (by rw [d1]; exact True.intro) hs he (dn_ok dd' hl'), ?_⟩
  exact q3 _ (fun c hc => upd_ne hc) ⟨nm, _, upd_same, Paired.mapP ep fun p q e => ⟨e.1, e.2.1.to tk, e.2.2⟩⟩ (by rw [upd_same]; exact fun z => nomatch z)
/-- len(d) -/
theorem call_lenN : CallR X (.builtin "len") (fun xs H Q => ∃ a kvs, xs = [.ref a] ∧ DN X.prog X.w H a kvs ∧ Q (.int (kvs.length : Int)) H) := by
  intro pins s σ H xs us Q I r h
  obtain ⟨a, kvs, rfl, ⟨nm, ys, d1, d2⟩, q⟩ := h
  obtain ⟨u, rfl, ru⟩ := vals1 r
  obtain rfl : u = Value.ref a := ru
  obtain ⟨dd, z⟩ := dn_of I.hok d1 d2
  have hl : kvs.length = ys.length := Paired.length d2
  have hn := line63
  refine call_len_dictH nm dd (by omega) ⟨.int (kvs.length : Int), H, I.tok _, ⟨s.toks + 1, ?_⟩, q⟩
  rw [hl]
end

/-! ### keys numbered as they come -/
section
variable {κ : Type} [DecidableEq κ]
def dictFrom : Nat → List κ → List (κ × V)
  | _, [] => []
  | n, k :: r => (k, .int (n : Int)) :: dictFrom (n + 1) r
theorem dictFrom_len : ∀ (l : List κ) (n : Nat), (dictFrom n l).length = l.length
  | [], _ => rfl
  | _ :: l, n => congrArg (· + 1) (dictFrom_len l (n + 1))
theorem dictFrom_snoc (k : κ) : ∀ (l : List κ) (n : Nat), dictFrom n (l ++ [k]) = dictFrom n l ++ [(k, .int ((n + l.length : Nat) : Int))]
  | [], n => rfl
  | x :: l, n => by
    show (x, V.int (n : Int)) :: dictFrom (n + 1) (l ++ [k]) = (x, V.int (n : Int)) :: (dictFrom (n + 1) l ++ [(k, .int ((n + (x :: l).length : Nat) : Int))])
    rw [dictFrom_snoc k l (n + 1), List.length_cons, Nat.add_right_comm n 1, Nat.add_assoc]
theorem valV_dictFrom (k : κ) : ∀ (l : List κ) (n : Nat), valV (dictFrom n l) k = if k ∈ l then some (.int ((n + l.idxOf k : Nat) : Int)) else none
  | [], _ => rfl
  | x :: l, n => by
    show valV ((x, V.int (n : Int)) :: dictFrom (n + 1) l) k = _
    by_cases e : x = k
    · subst e
      rw [valV_pos rfl, if_pos List.mem_cons_self]
      simp
    · rw [valV_neg e, valV_dictFrom k l (n + 1)]
      by_cases h : k ∈ l
      · rw [if_pos h, if_pos (List.mem_cons_of_mem _ h), List.idxOf_cons]
        simp only [beq_eq_false_iff_ne.mpr e, cond_false]
        congr 2
        omega
      · rw [if_neg h, if_neg (by simp [h, Ne.symm e])]
theorem putK_dictFrom {k : κ} {l : List κ} {n : Nat} (h : k ∉ l) : putK (dictFrom n l) k (.int ((n + l.length : Nat) : Int)) = dictFrom n (l ++ [k]) := by
  unfold putK
  rw [valV_any, valV_dictFrom, if_neg h, dictFrom_snoc]
  rfl
/-- the different ones, as they come -/
def addSeen (seen : List κ) (m : κ) : List κ := if m ∈ seen then seen else seen ++ [m]
def seenOf (ms : List κ) : List κ := ms.foldl addSeen []
theorem seenOf_snoc (ms : List κ) (m : κ) : seenOf (ms ++ [m]) = addSeen (seenOf ms) m := by
  unfold seenOf
  rw [List.foldl_append]
  rfl
theorem addSeen_mem (seen : List κ) (m : κ) : m ∈ addSeen seen m := by
  unfold addSeen
  split
  · assumption
  · simp
theorem addSeen_pre (seen : List κ) (m : κ) : ∃ t, addSeen seen m = seen ++ t := by
  unfold addSeen
  split
  · exact ⟨[], by simp⟩
  · exact ⟨[m], rfl⟩
theorem foldl_pre (ms : List κ) : ∀ seen : List κ, ∃ t, ms.foldl addSeen seen = seen ++ t := by
  induction ms with
  | nil => exact fun seen => ⟨[], by simp⟩
  | cons m ms ih =>
    intro seen
    obtain ⟨t1, e1⟩ := addSeen_pre seen m
    obtain ⟨t2, e2⟩ := ih (addSeen seen m)
    exact ⟨t1 ++ t2, by rw [List.foldl_cons, e2, e1, List.append_assoc]⟩
theorem mem_seenOf (ms : List κ) : ∀ m, m ∈ seenOf ms ↔ m ∈ ms := by
  have all : ∀ (ms seen : List κ) (m : κ), m ∈ ms.foldl addSeen seen ↔ m ∈ seen ∨ m ∈ ms := by
    intro ms
    induction ms with
    | nil => intro seen m; simp
    | cons x ms ih =>
      intro seen m
      rw [List.foldl_cons, ih]
      unfold addSeen
      by_cases h : x ∈ seen
      · rw [if_pos h, List.mem_cons]
        constructor
        · rintro (h1 | h1)
          · exact .inl h1
          · exact .inr (.inr h1)
        · rintro (h1 | rfl | h1)
          · exact .inl h1
          · exact .inl h
          · exact .inr h1
      · rw [if_neg h, List.mem_append, List.mem_singleton, List.mem_cons, or_assoc]
  intro m
  unfold seenOf
  rw [all]
  simp
theorem seenOf_nodup (ms : List κ) : (seenOf ms).Nodup := by
  have all : ∀ (ms seen : List κ), seen.Nodup → (ms.foldl addSeen seen).Nodup := by
    intro ms
    induction ms with
    | nil => exact fun _ h => h
    | cons x ms ih =>
      intro seen h
      refine ih _ ?_
      unfold addSeen
      split
      · exact h
      · rename_i hx
        rw [List.nodup_append]
        exact ⟨h, by simp, fun a ha b hb => by rw [List.mem_singleton.mp hb]; exact fun e => hx (e ▸ ha)⟩
  exact all ms [] List.nodup_nil
theorem idxOf_pre {seen t : List κ} {m : κ} (h : m ∈ seen) : (seen ++ t).idxOf m = seen.idxOf m := by
  rw [List.idxOf_append, if_pos h]
def numb (ms : List κ) : List Nat := ms.map fun m => (seenOf ms).idxOf m
theorem numb_len (ms : List κ) : (numb ms).length = ms.length := List.length_map _
/-- one more -/
theorem numb_snoc (ms : List κ) (m : κ) : numb (ms ++ [m]) = numb ms ++ [(addSeen (seenOf ms) m).idxOf m] := by
  unfold numb
  rw [List.map_append, seenOf_snoc]
  refine congrArg (· ++ _) (List.map_congr_left fun x hx => ?_)
  obtain ⟨t, e⟩ := addSeen_pre (seenOf ms) m
  rw [e, idxOf_pre ((mem_seenOf ms x).mpr hx)]
theorem seenOf_len (ms : List κ) : (seenOf ms).length ≤ ms.length := by
  have all : ∀ (ms seen : List κ), (ms.foldl addSeen seen).length ≤ seen.length + ms.length := by
    intro ms
    induction ms with
    | nil => intro _; exact Nat.le_refl _
    | cons x ms ih =>
      intro seen
      have h := ih (addSeen seen x)
      have h2 : (addSeen seen x).length ≤ seen.length + 1 := by
        unfold addSeen
        split
        · omega
        · simp
      rw [List.foldl_cons, List.length_cons]
      omega
  have := all ms []
  rw [List.length_nil, Nat.zero_add] at this
  exact this
theorem idxOf_map_inj {α : Type} [DecidableEq α] (f : α → κ) (hf : ∀ a b, f a = f b → a = b) (a : α) : ∀ l : List α, (l.map f).idxOf (f a) = l.idxOf a
  | [] => rfl
  | x :: l => by
    rw [List.map_cons, List.idxOf_cons, List.idxOf_cons, idxOf_map_inj f hf a l]
    by_cases e : x = a
    · rw [e, beq_self_eq_true, beq_self_eq_true]
    · rw [beq_eq_false_iff_ne.mpr e, beq_eq_false_iff_ne.mpr fun z => e (hf _ _ z)]
end
end QD
end

section
set_option Elab.async false
set_option linter.all false
set_option maxRecDepth 100000
set_option maxHeartbeats 2000000
/-! sorted(range(n), key=lambda number: -len(rows[number][0])) -/
namespace QL
open PySem PySem.Spec PyProof.Rows L2

abbrev lamArgs (x : Str) (p : Pos) : Arguments := { posonlyargs := [], args := [{ arg := x, annotation := none, pos := p }], vararg := none, kwonlyargs := [], kw_defaults := [], kwarg := none, defaults := [] }
abbrev lamBody (x rows : Str) (p1 p2 p3 p4 p5 p6 p7 p8 : Pos) : Expr :=
  .UnaryOp .USub (.Call (.Name "len" p1) [.Subscript (.Subscript (.Name rows p2) (.Name x p3) p4) (.Constant (.int 0) 0 p5) p6] [] p7) p8
abbrev lamScope (x rows : Str) : Scope := { kind := .function, names := [(x, .local), (rows, .free), ("len", .globalImplicit)], isGenerator := false, isCoroutine := false, more := [] }

theorem ls_x : (lamScope ("number" : Str) ("standings" : Str)).names.lookup ("number" : Str) = some .local := by decide +kernel
theorem ls_r : (lamScope ("number" : Str) ("standings" : Str)).names.lookup ("standings" : Str) = some .free := by decide +kernel
theorem ls_l : (lamScope ("number" : Str) ("standings" : Str)).names.lookup ("len" : Str) = some .globalImplicit := by decide +kernel
theorem ls_c : ∀ x ∈ (lamScope ("number" : Str) ("standings" : Str)).names, x.2 ≠ .cell := by decide +kernel
theorem isList_keeps {h h' : Heap} {a : Addr} {xs : Array Value} (x : h.IsList a xs) (k : ∀ b o, h.get? b = some o → h'.get? b = some o) : h'.IsList a xs := by
  obtain ⟨o, ho, r⟩ := x
  exact ⟨o, k _ _ ho, r⟩
section
variable {prog : Program} {w : World} {A : Around} {s : Shared} {mg mb : Str → Option Value} {f c c' a t wd : Addr} {q : Str} {cl : List (Str × Addr)} {pm ctv : Value} {p0 p1 p2 p3 p4 p5 p6 p7 p8 : Pos} {its tits wits : List Value} {n : Nat} {tk : Tok}
theorem body_runs {env : Env} {E : Value → Shared → Prop} {Q : Value → Shared → Prop}
    (hk : env.scope.kind = .function) (hgl : env.globals = mainGlobals) (hbl : env.builtins = builtinsNs) (k1 : env.kindOf "number" = some .local) (k2 : env.kindOf "standings" = some .free) (k3 : env.kindOf "len" = some .globalImplicit)
    (hn : s.heap.Ns env.locals fun y => if y = ("number" : Str) then some (.int n tk) else none) (hc : env.cells.lookup ("standings" : Str) = some c) (hcell : s.heap.IsCell c (some (.ref a)))
    (hg : s.heap.Ns mainGlobals mg) (hm : mg ("len" : Str) = none) (hb : s.heap.Ns builtinsNs mb) (hv : mb ("len" : Str) = some (.builtin "len"))
    (hl : s.heap.IsList a its.toArray) (hi : its[n]? = some (.ref t)) (ht : IsTup s.heap t tits.toArray) (hw : tits[0]? = some (.ref wd)) (hwl : s.heap.IsList wd wits.toArray)
    (hz : its.length ≤ sizeLine) (hzt : tits.length ≤ sizeLine) (hz2 : wits.length ≤ sizeLine)
    (hQ : ∀ tk t', Q (.int (-(wits.length : Int)) t') { s with toks := tk }) :
    wpAny (model prog w) A (eval (lamBody ("number" : Str) ("standings" : Str) p1 p2 p3 p4 p5 p6 p7 p8) env) Q E s := by
  have hn63 := line63
  refine UnaryOp_ ?_
  refine wpAny_Call_Name_kw (Calls.Name_function_global hk k3 (Calls.loadGlobal_builtin (by rw [hgl]; exact hg) hm (by rw [hbl]; exact hb) hv ?_))
  refine PyProof.Rows.callWith_builtin1 (args_cons ?_) (by rfl) (by rfl)
  refine Subscript_ (Subscript_ ?_)
  refine wpAny_Name (wpAny_loadName_free hk k2 hc hcell ?_)
  refine wpAny_Name (wpAny_loadName_local (v := .int n tk) hk k1 hn (by rw [if_pos rfl]) ?_)
  have hlt : n < its.length := (List.getElem?_eq_some_iff.mp hi).1
  refine item_listR hl (by omega) (by omega) (x := .ref t) (by simpa using hi) ?_
  refine wpAny_Constant_int ?_
  have h0 : 0 < tits.length := (List.getElem?_eq_some_iff.mp hw).1
  refine subscriptTail_builtinR (x := .ref wd) ht.typeIs slot_tuple_getitem.lookup
    (getItem_tuple (j := 0) (Q := fun r s' => r = .ref wd ∧ _) ht (by omega) (by omega) (by rw [List.size_toArray]; exact seqIndex_of (Int.le_refl 0) (by omega)) (by simpa using hw) ⟨rfl, ?_⟩)
  refine args_nil ?_
  refine Calls.call_len_list hwl (by rw [List.size_toArray]; omega) ?_
  refine neg_int ?_
  rw [List.size_toArray]
  exact hQ _ _

/-- the lambda called -/
theorem lam_call (hf : s.heap.get? f = some (PySem.W.kla_obj "<lambda>" q (lamArgs ("number" : Str) p0) (lamBody ("number" : Str) ("standings" : Str) p1 p2 p3 p4 p5 p6 p7 p8) (lamScope ("number" : Str) ("standings" : Str)) cl pm c' ctv))
    (hcd : s.heap.CodeRec (.ref c') q) (hroom : A.depth < recursionLimit) (hlim : s.heap.NoLimit)
    (hc : cl.lookup ("standings" : Str) = some c) (hcell : s.heap.IsCell c (some (.ref a)))
    (hg : s.heap.Ns mainGlobals mg) (hm : mg ("len" : Str) = none) (hb : s.heap.Ns builtinsNs mb) (hv : mb ("len" : Str) = some (.builtin "len"))
    (hl : s.heap.IsList a its.toArray) (hi : its[n]? = some (.ref t)) (ht : IsTup s.heap t tits.toArray) (hw : tits[0]? = some (.ref wd)) (hwl : s.heap.IsList wd wits.toArray)
    (hz : its.length ≤ sizeLine) (hzt : tits.length ≤ sizeLine) (hz2 : wits.length ≤ sizeLine) :
    wpAny (model prog w) A (call (.ref f) [.int n tk]) (PySem.W.KeyPure (.int (-(wits.length : Int))) s) (fun _ _ => False) s := by
  refine wpAny_call ?_
  refine PySem.W.kla_callFunE hroom hf rfl rfl rfl rfl hcd ?_
  have eb : bindArgs (PySem.W.kla_fn "<lambda>" q (lamArgs ("number" : Str) p0) (lamBody ("number" : Str) ("standings" : Str) p1 p2 p3 p4 p5 p6 p7 p8) (lamScope ("number" : Str) ("standings" : Str)) cl pm (.ref c') ctv) ⟨[.int n tk], []⟩ = pure [(("number" : Str), .int n tk)] := rfl
  rw [eb]
  refine wpAny_pure (wpAny_newFunctionEnv ls_c (fun y hy => by
    rw [List.mem_singleton.mp hy]
    exact ls_x) (fun h₁ hns hsb => ⟨hlim.fresh _ hsb, ?_⟩) rfl)
  have kp : ∀ b o, s.heap.get? b = some o → h₁.get? b = some o := fun b o e => hsb.extBut b o (Nat.ne_of_lt (Heap.lt_size e)) (Heap.get?_push_of_some _ e)
  refine PySem.W.kla_codeExpr ?_
  have hns' : h₁.Ns s.heap.objs.size fun y => if y = ("number" : Str) then some (.int n tk) else none := by
    have e : (fun y => ([(("number" : Str), Value.int n tk)] : List (Str × Value)).reverse.lookup y) = fun y => if y = ("number" : Str) then some (.int n tk) else none := by
      funext y
      show List.lookup y [(("number" : Str), Value.int n tk)] = _
      rw [List.lookup_cons]
      by_cases hy : y = ("number" : Str)
      · rw [if_pos hy, hy]; simp
      · rw [if_neg hy, beq_eq_false_iff_ne.mpr hy]; rfl
    rw [← e]
    exact hns
  refine body_runs (s := { s with heap := h₁, toks := s.toks + 1 }) rfl rfl rfl ls_x ls_r ls_l hns' hc ?_ (hg.keeps kp) hm (hb.keeps kp) hv (isList_keeps hl kp) hi (ht.keeps kp) hw (isList_keeps hwl kp) hz hzt hz2 fun tk2 t2 => ?_
  · obtain ⟨o, ho, hd⟩ := hcell
    exact ⟨o, kp _ _ ho, hd⟩
  · exact ⟨h₁, tk2, rfl, kp, .int _ _⟩
end

section
variable {prog : Program} {w : World} {A : Around} {E : Value → Shared → Prop} {s : Shared} {r f : Addr} {t u v : Tok} {n : Nat}
abbrev IsN (x : Value) (i : Nat) : Prop := ∃ t, x = .int (i : Int) t
theorem each_ints {R : Value → Nat → Prop} : ∀ (l : List Value) (k : Nat), (∀ j x, l[j]? = some x → R x (k + j)) → PySem.W.EachIs R l (List.range' k l.length)
  | [], k, _ => .nil
  | x :: l, k, h => by
    rw [List.length_cons, List.range'_succ]
    refine .cons (by simpa using h 0 x rfl) (each_ints l (k + 1) fun j y e => ?_)
    have := h (j + 1) y (by simpa using e)
    rwa [Nat.add_assoc, Nat.add_comm 1 j]
theorem sorted_range_key {Q : Value → Shared → Prop} (key : Nat → Int) (hh : A.handled = none) (hr : IsRange s.heap r 0 (n : Int) 1 t u v) (hn : n ≤ 100000) (hu : A.units + 10 < cLine)
    (turn : ∀ (i : Nat) (tk : Tok), i < n → ∀ (h : Heap) (tk0 : Nat), (∀ b o, s.heap.get? b = some o → h.get? b = some o) →
      wpAny (model prog w) A.in1.in1 (call (.ref f) [.int i tk]) (PySem.W.KeyPure (.int (key i)) { s with heap := h, toks := tk0 }) (fun _ _ => False) { s with heap := h, toks := tk0 })
    (h : ∀ (out : List Value) (c : Nat) (h1 h' : Heap) (tk : Nat), (∀ b o, s.heap.get? b = some o → h1.get? b = some o) → (∀ b o, h1.get? b = some o → h'.get? b = some o) → h'.get? h1.objs.size = some (seqObj "list" out.toArray c) →
      PySem.W.EachIs IsN out ((List.range n).mergeSort fun i j => decide (key i ≤ key j)) → Q (.ref h1.objs.size) { s with heap := h', toks := tk }) :
    wpAny (model prog w) A (call (.builtin "sorted") [.ref r] [(Str.ofString "key", .ref f)]) Q E s := by
  have hsz := sizeLine_eq
  refine call_function_entry_kw kind_sorted plain_sorted entry_sorted (ksk_s1 _ _) ?_
  unfold Builtin.«sorted»
  refine wpAny_bind (m := checkCount "sorted" 1 1 _) (wpAny_pure ?_)
  have hrs : Builtin.Range.rangeSize 0 (n : Int) 1 = n := by
    unfold Builtin.Range.rangeSize
    simp
    omega
  have hsm : Builtin.Range.small 0 (n : Int) 1 = true := by
    unfold Builtin.Range.small
    rw [hrs]
    simp [Builtin.Range.rangeFitsLong]
    omega
  refine wpAny_bind (collect_range (A := A.in1) hh hr hsm hrs (by omega) fun h1 tk1 acc k1 hi => ?_)
  have hal : acc.toList.length = n := by rw [Array.length_toList]; exact hi.1
  refine wpAny_bind (wpAny_newList ?_ (by rw [hal]; omega))
  have hL : (h1.push (seqObj "list" acc.toList.toArray 0)).get? h1.objs.size = some (seqObj "list" acc.toList.toArray 0) := Heap.get?_push_size _ rfl
  have k2 : ∀ b o, s.heap.get? b = some o → (h1.push (seqObj "list" acc.toList.toArray 0)).get? b = some o := fun b o e => Heap.get?_push_of_some _ (k1 b o e)
  have ebs : PySem.W.EachIs IsN acc.toList (List.range n) := by
    have e := each_ints (R := IsN) acc.toList 0 fun j x hx => ?_
    · rw [hal, ← List.range_eq_range'] at e
      exact e
    · obtain ⟨t, ht⟩ := hi.2 j x (by simpa using hx)
      exact ⟨t, by rw [ht, Int.mul_one, Int.zero_add, Nat.zero_add]⟩
  refine wpAny_bind (wpAny_holding (wpAny_call_entry_kw slot_list_sort ⟨_, hL, rfl⟩ entry_list_sort ?_ (ksk_l1 _ _)))
  rw [ksk_t1]
  have up : ∀ {g : Heap}, PySem.W.KeepsBut h1.objs.size (h1.push (seqObj "list" acc.toList.toArray 0)) g → ∀ b o, h1.get? b = some o → g.get? b = some o := fun {g} kp b o e =>
    kp b o (Nat.ne_of_lt (Heap.lt_size e)) (Heap.get?_push_of_some _ e)
  refine PySem.W.keyH_tree (kz := (List.range n).map fun i => PyData.int (key i)) hL (by rw [List.length_map, List.length_range, hal]) (by rw [hal]; omega) (PySem.W.AllAlike.of fun i j => rfl) (PySem.W.Sortable.others fun i => ⟨(fun z => nomatch z), fun xs z => nomatch z⟩) (fun d hd => ?_)
    (PySem.W.keyH_turns (s := { s with heap := h1.push (seqObj "list" acc.toList.toArray 0), toks := tk1 }) (k := fun i => PyData.int (key i)) ebs fun x i hR hx h2 tk2 kp => ?_) fun h2 tk2 out c kp hD ko => ⟨_, rfl, ?_⟩
  · obtain ⟨i, _, rfl⟩ := List.mem_map.mp hd
    show A.units + 1 + 1 + 0 < cLine
    omega
  · obtain ⟨t, rfl⟩ := hR
    exact turn i t (List.mem_range.mp hx) h2 tk2 fun b o e => up kp b o (k1 b o e)
  · refine wpAny_pure ⟨_, rfl, ?_⟩
    have e := PySem.W.keyedOut_each _ ko ebs
    rw [PySem.W.dataLe_int] at e
    exact h out c h1 h2 tk2 k1 (up kp) hD e
end

section
open LamX
variable {X : Cx}
theorem pe_range1 {p pos : Pos} {e : Expr} {te : TE} (hg : Gl X "range") (hm : X.mg "range" = none) (he : PE X e te) (hs : starEach [e] X.env = (false, eval e X.env) :: starEach [] X.env := by rfl) : PE X (.Call (.Name "range" p) [e] [] pos) (tCB (fun vs H Q => ∃ j : Int, vs = [V.int j] ∧ ∀ q, H q = none → Q (.ref q) (upd H q (.rng 0 j))) (tCons te tNil)) :=
  pe_callTy (T := "range") (fun pins s σ H vs us Q I r h => by
    obtain ⟨j, rfl, q⟩ := h
    obtain ⟨u1, rfl, rj⟩ := vals1 r
    obtain ⟨u, rfl⟩ := rj
    refine call_range_1 ⟨.ref s.heap.objs.size, upd H s.heap.objs.size (.rng 0 j), I.laid (t' := s.toks + 1 + 1) (fun b o e => Heap.get?_push_of_some _ e) (Nat.le_refl _) ?_, rfl, q _ (I.hok.fresh (Nat.le_refl _))⟩
    exact ⟨s.toks, u, s.toks + 1, Heap.get?_push_size _ rfl⟩) hg hm (by decide +kernel) (pa_cons he pa_nil (hs := hs)) (he := hs)

/-- sorted(range(..), key=lambda number: -len(rows[number][0])), the rows in slot i, a cell -/
def tSortLam (T : List (Addr × Str)) (K : PySem.W.Frag) (i : Nat) (ti : TE) : TE := fun σ H Q => ti σ H fun x H1 => ∃ (r : Addr) (n : Nat) (a : Addr) (ts : List Addr) (key : Nat → Int), x = .ref r ∧ H1 r = some (.rng 0 (n : Int)) ∧ n ≤ 100000 ∧ σ[i]? = some (some (.ref a)) ∧
  SqL K H1 a (ts.map V.ref) ∧ ts.length = n ∧ (∀ (j : Nat) (t : Addr), ts[j]? = some t → ∃ (wd : Addr) (more xs : List V), SqT K H1 t (.ref wd :: more) ∧ SqL K H1 wd xs ∧ key j = -(xs.length : Int)) ∧ Tabs T H1 ∧
  ∀ (p : Addr) (H2 : Hp), ExtN H1 H2 → Tabs T H2 → H2 p = none → Q (.ref p) (upd H2 p (.lst (((List.range n).mergeSort fun i j => decide (key i ≤ key j)).map fun (j : Nat) => V.int (j : Int))))
theorem sqL_ext {K : PySem.W.Frag} {H H' : Hp} {a : Addr} {xs : List V} (e : ExtN H H') (h : SqL K H a xs) : SqL K H' a xs := by
  rcases h with (h | ⟨o, h⟩) | h
  · exact .inl (.inl (e _ _ h fun ps z => nomatch z))
  · exact .inl (.inr ⟨o, e _ _ h fun ps z => nomatch z⟩)
  · exact .inr h
theorem sqT_ext {K : PySem.W.Frag} {H H' : Hp} {a : Addr} {xs : List V} (e : ExtN H H') (h : SqT K H a xs) : SqT K H' a xs := by
  rcases h with (h | ⟨o, h⟩) | h
  · exact .inl (.inl (e _ _ h fun ps z => nomatch z))
  · exact .inl (.inr ⟨o, e _ _ h fun ps z => nomatch z⟩)
  · exact .inr h
theorem vals_of_each : ∀ (l : List Value) (ns : List Nat), PySem.W.EachIs IsN l ns → Vals (ns.map fun (j : Nat) => V.int (j : Int)) l
  | _, _, .nil => .nil
  | _, _, .cons h t => .cons h (vals_of_each _ _ t)
theorem pe_sortLam {T : List (Addr × Str)} {i : Nat} {iter : Expr} {ti : TE} {c P : Addr} {k : Nat} {q1 kpos lpos pos p0 p1 p2 p3 p4 p5 p6 p7 p8 : Pos} (hg : Gl X "sorted") (hm : X.mg "sorted" = none) (hmL : X.mg "len" = none) (hi : PE X iter ti)
    (hN : X.N[i]? = some ("standings" : Str)) (hcl : X.env.scope.names.lookup ("standings" : Str) = some .cell) (TB : TabB X.base X.mg c P) (hcode : X.env.code = .ref c) (hmT : (P, X.env.qual ++ "<lambda>") ∈ T) (hu : ∀ p ∈ T, p.1 = P → p.2 = X.env.qual ++ "<lambda>") (hr : Room k X.A)
    (he : backTo pos (starEach [iter] X.env) = (false, eval iter X.env) :: backTo pos (starEach [] X.env) := by rfl) (hpl : (backTo pos (starEach [iter] X.env)).any (·.1) = false := by rfl) :
    PE X (.Call (.Name "sorted" q1) [iter] [⟨some "key", .Lambda (lamArgs ("number" : Str) p0) (lamBody ("number" : Str) ("standings" : Str) p1 p2 p3 p4 p5 p6 p7 p8) (lamScope ("number" : Str) ("standings" : Str)) lpos, kpos⟩] pos) (tSortLam T X.K i ti) := by
  refine ⟨fun pins s σ H Q I h => ?_⟩
  refine wpAny_Call_Name_kw (ld_blt I hg hm (u := .builtin "sorted") (by decide +kernel) ?_)
  refine PyProof.Rows.callWith_kw ?_ he hpl rfl rfl
  rw [he]
  refine Calls.spliced_cons (thn (hi.run pins s σ H _ I h) fun u s1 ⟨x, H1, I1, r1, q1⟩ => ?_)
  obtain ⟨r, n, a, ts, key, rfl, hrg, hn, hσ, hS, hlen, hrows, hT, q⟩ := q1
  obtain rfl : u = Value.ref r := r1
  refine Calls.spliced_nil ?_
  show wpAny _ _ (evalAll [do let v ← eval (.Lambda (lamArgs ("number" : Str) p0) (lamBody ("number" : Str) ("standings" : Str) p1 p2 p3 p4 p5 p6 p7 p8) (lamScope ("number" : Str) ("standings" : Str)) lpos) X.env; standAt pos; pure v]) _ _ s1
  have hfree : ∀ y ∈ (lamScope ("number" : Str) ("standings" : Str)).names, y.2 = NameKind.free → ∃ c, X.env.cells.lookup y.1 = some c := fun y hy e => by
    have hy1 : y = (("standings" : Str), NameKind.free) := by
      rcases List.mem_cons.mp hy with rfl | hy
      · cases e
      · rcases List.mem_cons.mp hy with rfl | hy
        · rfl
        · rw [List.mem_singleton.mp hy] at e
          cases e
    rw [hy1]
    exact I1.ok.has _ (.inl hcl)
  refine wpAny_evalAll_cons (wpAny_bind (lam_make2 I1 TB hcode hmT hu hT rfl hfree fun f c' pm ctv H2 s2 I2 e2 T2 hf hfn hfr hco => wpAny_bind (wpAny_standAt (wpAny_pure (wpAny_evalAll_nil ?_)))))
  -- the def's cell of rows
  have hcell : ∃ c2, X.env.cells.lookup ("standings" : Str) = some c2 ∧ s2.heap.IsCell c2 (some (.ref a)) := by
    obtain ⟨m, hn2, hl⟩ := I2.loc
    obtain ⟨w2, rv, l⟩ := hl i ("standings" : Str) _ hN hσ (.inr (.inl hcl))
    obtain rfl : w2 = Value.ref a := rv
    rcases l with ⟨hk, _⟩ | ⟨_, c2, h1, h2⟩
    · have hk : X.env.scope.names.lookup ("standings" : Str) = some .local := hk
      rw [hcl] at hk
      cases hk
    · exact ⟨c2, h1, h2⟩
  obtain ⟨c2, hc2, hcell⟩ := hcell
  have hcl2 : (cloFrom X.env.cells (lamScope ("number" : Str) ("standings" : Str)).names []).lookup ("standings" : Str) = some c2 := NdefX.clo_has hfree (by decide +kernel) hc2
  obtain ⟨mb, hb1, hb2⟩ := I2.mod.blt
  have rg2 : H2 r = some (.rng 0 (n : Int)) := e2 _ _ hrg fun ps z => nomatch z
  obtain ⟨t1, t2, t3, hrr⟩ := (show ObjOk X.prog X.w H2 s2.heap r (.rng 0 (n : Int)) from I2.hok r _ rg2)
  obtain ⟨its, rv, pl, hz⟩ := I2.list (sqL_ext e2 hS)
  have hun := hr.un
  have hdp := hr.dp
  refine sorted_range_key (f := f) key hr.hd hrr hn (by omega) (fun j tk hj h0 tk0 k0 => ?_) fun out cc h1 h' tk k1 k2 hD hE => ?_
  · have hjt : j < ts.length := by omega
    obtain ⟨wd, more, xs, ht, hw, hkey⟩ := hrows j ts[j] (by simp [hjt])
    obtain ⟨tits, rvt, plt, hzt⟩ := I2.tuple (sqT_ext e2 ht)
    obtain ⟨wits, rvw, plw, hzw⟩ := I2.list (sqL_ext e2 hw)
    have hlw := rvw.length
    have hlt := rvt.length
    have hli := rv.length
    obtain ⟨u1, hu1, ru1⟩ := rv.get (i := j) (x := .ref ts[j]) (by rw [List.getElem?_map]; simp [hjt])
    obtain rfl : u1 = Value.ref ts[j] := ru1
    obtain ⟨u2, hu2, ru2⟩ := rvt.get (i := 0) (x := .ref wd) rfl
    obtain rfl : u2 = Value.ref wd := ru2
    rw [hkey, hlw]
    refine lam_call (s := { s2 with heap := h0, toks := tk0 }) (k0 _ _ hf) ?_ (by show X.A.depth < recursionLimit; omega) (I2.nolimit.keeps k0) hcl2 ?_ ((I2.mod.glob.keeps I2.bk).keeps k0) hmL ((hb1.keeps I2.bk).keeps k0) ((hb2 _ (by decide)).trans (by decide +kernel))
      (isList_keeps pl.isList k0) hu1 (plt.keeps k0) hu2 (isList_keeps plw.isList k0) (by omega) (by omega) (by omega)
    · obtain ⟨c3, oc, vs, t, z1, z2, z3, z4⟩ := NdefX.codeO_at I2.hok hco
      exact ⟨c3, oc, vs, t, z1, k0 _ _ z2, z3, z4⟩
    · obtain ⟨o, ho, hd⟩ := hcell
      exact ⟨o, k0 _ _ ho, hd⟩
  · have I3 : Inv X pins σ H2 { s2 with heap := h1 } := I2.kept (t' := s2.toks) k1
    have hl2 : (((List.range n).mergeSort fun i j => decide (key i ≤ key j)).map fun (j : Nat) => V.int (j : Int)).length ≤ sizeLine := by
      rw [List.length_map, List.length_mergeSort, List.length_range, sizeLine_eq]
      omega
    have I4 := I3.laid (a := h1.objs.size) (t' := tk) (h' := h') (o := .lst (((List.range n).mergeSort fun i j => decide (key i ≤ key j)).map fun (j : Nat) => V.int (j : Int))) k2 (Nat.le_refl _) ⟨hl2, out, cc, vals_of_each _ _ hE, hD⟩
    exact ⟨.ref h1.objs.size, _, I4, rfl, q _ H2 e2 T2 (I3.hok.fresh (Nat.le_refl _))⟩
theorem pe_sortLamK (K : PySem.W.Frag) {T : List (Addr × Str)} {i : Nat} {iter : Expr} {ti : TE} {c P : Addr} {k : Nat} {q1 kpos lpos pos p0 p1 p2 p3 p4 p5 p6 p7 p8 : Pos} (hg : Gl X "sorted") (hm : X.mg "sorted" = none) (hmL : X.mg "len" = none) (hi : PE X iter ti)
    (hN : X.N[i]? = some ("standings" : Str)) (hcl : X.env.scope.names.lookup ("standings" : Str) = some .cell) (TB : TabB X.base X.mg c P) (hcode : X.env.code = .ref c) (hmT : (P, X.env.qual ++ "<lambda>") ∈ T) (hu : ∀ p ∈ T, p.1 = P → p.2 = X.env.qual ++ "<lambda>") (hr : Room k X.A) (hK : X.K = K := by rfl)
    (he : backTo pos (starEach [iter] X.env) = (false, eval iter X.env) :: backTo pos (starEach [] X.env) := by rfl) (hpl : (backTo pos (starEach [iter] X.env)).any (·.1) = false := by rfl) :
    PE X (.Call (.Name "sorted" q1) [iter] [⟨some "key", .Lambda (lamArgs ("number" : Str) p0) (lamBody ("number" : Str) ("standings" : Str) p1 p2 p3 p4 p5 p6 p7 p8) (lamScope ("number" : Str) ("standings" : Str)) lpos, kpos⟩] pos) (tSortLam T K i ti) :=
  hK ▸ pe_sortLam hg hm hmL hi hN hcl TB hcode hmT hu hr he hpl
end
end QL
end

section
set_option Elab.async false
set_option linter.all false
set_option maxRecDepth 100000
/-! words, ways, standings in the abstract heap; what is kept -/
namespace QB
open PySem PySem.Spec PyProof.Rows L2 LamX

/-! ### text facts as data -/
/-- a def of the text: where it stands, how it binds -/
structure DefAt (K : PySem.W.Frag) (x qual : Str) (st : Stmt) (ps : List Str) : Type where
  a : Addr
  fd : FuncData
  F : Fun K x qual st a fd
  b : Binds K fd ps []
/-- .. a def of the module, by its name -/
structure TopAt (K : PySem.W.Frag) (mg : Str → Option Value) (x : Str) (st : Stmt) (ps : List Str) : Type extends DefAt K x x st ps where
  mg : mg x = some (.ref a)

section
variable {X : Cx}
theorem pe_gc {x : Str} {v : V} {pos : Pos} (hg : Gl X x) (h : ∃ u, X.mg x = some u ∧ RelV v u) (hd : (x == ("__debug__" : Str)) = false := by decide) : PE X (.Name x pos) (tC v) := by
  obtain ⟨u, hm, r⟩ := h
  exact pe_glob hg hm r hd
end
theorem bo_isinstance : bootBuiltins "isinstance" = some (.builtin "isinstance") := by decide +kernel
theorem bo_abs : bootBuiltins "abs" = some (.builtin "abs") := by decide +kernel
theorem bo_max : bootBuiltins "max" = some (.builtin "max") := by decide +kernel
theorem bo_min : bootBuiltins "min" = some (.builtin "min") := by decide +kernel
theorem bo_sum : bootBuiltins "sum" = some (.builtin "sum") := by decide +kernel
theorem bo_all : bootBuiltins "all" = some (.builtin "all") := by decide +kernel
theorem bo_any : bootBuiltins "any" = some (.builtin "any") := by decide +kernel
theorem bo_len : bootBuiltins "len" = some (.builtin "len") := by decide +kernel
theorem bo_sorted : bootBuiltins "sorted" = some (.builtin "sorted") := by decide +kernel
theorem bo_list : bootBuiltins "list" = some (.type "list") := by decide +kernel
theorem bo_tuple : bootBuiltins "tuple" = some (.type "tuple") := by decide +kernel
theorem bo_int : bootBuiltins "int" = some (.type "int") := by decide +kernel
theorem bo_str : bootBuiltins "str" = some (.type "str") := by decide +kernel
theorem bo_bool : bootBuiltins "bool" = some (.type "bool") := by decide +kernel
theorem bo_range : bootBuiltins "range" = some (.type "range") := by decide +kernel
theorem bo_enumerate : bootBuiltins "enumerate" = some (.type "enumerate") := by decide +kernel
theorem bo_zip : bootBuiltins "zip" = some (.type "zip") := by decide +kernel
theorem bo_dict : bootBuiltins "dict" = some (.type "dict") := by decide +kernel
theorem bo_set : bootBuiltins "set" = some (.type "set") := by decide +kernel
theorem hu64 {A : Around} {k : Nat} (hr : Room k A) : A.units + 64 < cLine := hr.units

/-! ### rules with the written part named -/
section
variable {X : Cx} (K : PySem.W.Frag)
theorem ix_listK (h : X.K = K := by rfl) : IxR X (rIxL K) := h ▸ ix_list
theorem ix_tupK (h : X.K = K := by rfl) : IxR X (rIxT K) := h ▸ ix_tup
def rLen (K : PySem.W.Frag) : List V → Hp → VK → Prop := fun xs H Q => ∃ p ys, xs = [.ref p] ∧ (SqL K H p ys ∨ SqT K H p ys) ∧ Q (.int ys.length) H
theorem call_lenK (h : X.K = K := by rfl) : CallR X (.builtin "len") (rLen K) := h ▸ call_len_seq
def rListOf (K : PySem.W.Frag) : List V → Hp → VK → Prop := fun xs H Q => ∃ p ys, xs = [.ref p] ∧ (SqL K H p ys ∨ SqT K H p ys) ∧ ∀ l, H l = none → Q (.ref l) (upd H l (.lst ys))
theorem call_listK (h : X.K = K := by rfl) : CallR X (.type "list") (rListOf K) := h ▸ call_list_of
def rTupOf (K : PySem.W.Frag) : List V → Hp → VK → Prop := fun xs H Q => ∃ p ys, xs = [.ref p] ∧ ((SqL K H p ys ∧ ∀ l, H l = none → Q (.ref l) (upd H l (.tup ys))) ∨ (SqT K H p ys ∧ Q (.ref p) H))
theorem call_tupleK (h : X.K = K := by rfl) : CallR X (.type "tuple") (rTupOf K) := h ▸ call_tuple_of
theorem call_isiK (h : X.K = K := by rfl) : CallR X (.builtin "isinstance") (rIsi K) := h ▸ call_isi
theorem cr_allK (hc : X.calm = true) (h : X.K = K := by rfl) : CallR X (.builtin "all") (rAll K) := h ▸ cr_all hc
theorem cr_anyK (hc : X.calm = true) (h : X.K = K := by rfl) : CallR X (.builtin "any") (rAny K) := h ▸ cr_any hc
theorem cr_maxK (hc : X.calm = true) (h : X.K = K := by rfl) : CallR X (.builtin "max") (rMax K) := h ▸ cr_max hc
theorem mt_indexK (h : X.K = K := by rfl) : MtR X "list.index" (rIndex K) := h ▸ mt_index
theorem op_inK (h : X.K = K := by rfl) : OpR X (compareOp .In) (rIn K false) := h ▸ op_in_seq
theorem op_notInK (h : X.K = K := by rfl) : OpR X (compareOp .NotIn) (rIn K true) := h ▸ op_notIn_seq
theorem op_eqDK (hu : X.A.units + 64 < cLine) (h : X.K = K := by rfl) : OpR X (compareOp .Eq) (rEqD K) := h ▸ op_eqD hu
theorem op_neDK (hu : X.A.units + 64 < cLine) (h : X.K = K := by rfl) : OpR X (compareOp .NotEq) (rNeD K) := h ▸ op_neD hu
theorem sl_listK (h : X.K = K := by rfl) : SlR X (rSlL K) := h ▸ sl_list
theorem pi_listK {tg l : Expr} {tl : TE} (he : PE X l tl) (h : X.K = K := by rfl) : PI X tg l (iList K tl) := h ▸ pi_list he
theorem pe_fldK {e : Expr} {ta : TE} {f : Str} {pos : Pos} (he : PE X e ta) (hb : attributeBase e f X.env (eval e X.env) = eval e X.env) (h : X.K = K := by rfl) : PE X (.Attribute e f pos) (tFld K ta f) := h ▸ pe_fld he hb
theorem pe_bmK {o e : Expr} {es : List Expr} {to : TE} {t : TA} {name : Str} {apos cpos : Pos} {T id : String} {r : V → List V → Hp → VK → Prop} (pa : PlainAttrs T) (slot : Slot T name id)
    (hty : typeOf (.builtin id) = pure (.type "method_descriptor")) (hm : MtR X id r) (ho : PE X o to) (ha : PA X (e :: es) t) (h : X.K = K := by rfl) (hbase : attributeBase o name X.env (eval o X.env) = eval o X.env := by rfl)
    (hfew : ((backTo cpos (starEach (e :: es) X.env)).all (fun x => !x.1) && (backToKw cpos (keywordEach [] X.env)).all (fun x => x.1.isSome) && decide ((e :: es).length + ([] : List Keyword).length + (if ([] : List Keyword).isEmpty then 0 else 1) < 30)) = true := by rfl)
    (hline : (apos.endLine == cpos.line) = true := by rfl) (hs : starEach (e :: es) X.env = (false, eval e X.env) :: starEach es X.env := by rfl) (hp : (backTo cpos (starEach es X.env)).any (·.1) = false := by rfl) :
    PE X (.Call (.Attribute o name apos) (e :: es) [] cpos) (tBM K T r to t) := h ▸ pe_bm pa slot hty hm ho ha hbase hfew hline hs hp
theorem pe_bm0K {o : Expr} {to : TE} {name : Str} {apos cpos : Pos} {T id : String} {r : V → List V → Hp → VK → Prop} (pa : PlainAttrs T) (slot : Slot T name id)
    (hty : typeOf (.builtin id) = pure (.type "method_descriptor")) (hm : MtR X id r) (ho : PE X o to) (h : X.K = K := by rfl) (hbase : attributeBase o name X.env (eval o X.env) = eval o X.env := by rfl)
    (hline : (apos.endLine == cpos.line) = true := by rfl) : PE X (.Call (.Attribute o name apos) [] [] cpos) (tBM0 K T r to) := h ▸ pe_bm0 pa slot hty hm ho hbase hline
theorem pi_enumK {e : Expr} {ta : TA} {p pos tpos : Pos} {elts : List Expr} {kk : Nat} (hg : Gl X "enumerate") (hm : X.mg "enumerate" = none) (ha : PA X [e] ta) (h : X.K = K := by rfl) (hs : starEach [e] X.env = [(false, eval e X.env)] := by rfl) :
    PI X (.Tuple elts kk tpos) (.Call (.Name "enumerate" p) [e] [] pos) (iEnum K ta) := h ▸ pi_enum hg hm ha hs
theorem pi_zipK {e e2 : Expr} {ta : TA} {p pos tpos : Pos} {elts : List Expr} {kk : Nat} (hg : Gl X "zip") (hm : X.mg "zip" = none) (ha : PA X [e, e2] ta) (h : X.K = K := by rfl)
    (hs : starEach [e, e2] X.env = (false, eval e X.env) :: starEach [e2] X.env := by rfl) (hpl : (backTo pos (starEach [e2] X.env)).any (·.1) = false := by rfl) :
    PI X (.Tuple elts kk tpos) (.Call (.Name "zip" p) [e, e2] [] pos) (iZip K ta) := h ▸ pi_zip hg hm ha hs hpl
end

/-! ### what stays: all but the tables of code objects, which grow -/
def Ext (T : List (Addr × Str)) (H H' : Hp) : Prop := ExtN H H' ∧ (Tabs T H → Tabs T H')
section
variable {T : List (Addr × Str)} {H H' H'' : Hp} {p : Addr} {o : HO} {K : PySem.W.Frag}
theorem Ext.refl : Ext T H H := ⟨ExtN.refl H, fun t => t⟩
theorem Ext.trans (a : Ext T H H') (b : Ext T H' H'') : Ext T H H'' := ⟨a.1.trans b.1, fun t => b.2 (a.2 t)⟩
theorem Ext.of (a : Same H H') : Ext T H H' := ⟨ExtN.of a, fun t => t.ext a⟩
theorem same_new (h : H p = none) : Same H (upd H p o) := fun b u e => by
  rw [upd_ne (ne_of_none e h)]
  exact e
theorem Same.new (a : Same H H') (h : H' p = none) : Same H (upd H' p o) := fun b u e => by
  have e' := a b u e
  rw [upd_ne (ne_of_none e' h)]
  exact e'
/-- an object that was not there at H may change -/
theorem Same.mut (a : Same H H') (h : H p = none) : Same H (upd H' p o) := fun b u e => by
  rw [upd_ne (ne_of_none e h)]
  exact a b u e
theorem Ext.new (h : H p = none) : Ext T H (upd H p o) := .of (same_new h)
theorem Ext.get {u : HO} (a : Ext T H H') (h : H p = some u) (n : ∀ ps, u ≠ .tbl ps := by intro _ z; cases z) : H' p = some u := a.1 _ _ h n
theorem Ext.lst {xs : List V} (a : Ext T H H') (h : H p = some (.lst xs)) : H' p = some (.lst xs) := a.1 _ _ h fun _ z => nomatch z
theorem Ext.tup {xs : List V} (a : Ext T H H') (h : H p = some (.tup xs)) : H' p = some (.tup xs) := a.1 _ _ h fun _ z => nomatch z
/-- not there, but for a table -/
def Fresh (H : Hp) (p : Addr) : Prop := ∀ o, H p = some o → ∃ ps, o = .tbl ps
theorem Fresh.of (h : H p = none) : Fresh H p := fun o e => by
  rw [h] at e
  cases e
theorem Ext.fresh (a : Ext T H H') (h : Fresh H' p) : Fresh H p := fun o e => by
  by_cases hu : ∃ ps, o = .tbl ps
  · exact hu
  · exact h o (a.1 _ _ e fun ps z => hu ⟨ps, z⟩)
theorem Ext.free (a : Ext T H H') (h : H' p = none) : Fresh H p := a.fresh (.of h)
theorem Fresh.ne {q : Addr} {u : HO} (f : Fresh H p) (h : H q = some u) (n : ∀ ps, u ≠ .tbl ps := by intro _ z; cases z) : q ≠ p := fun e => by
  rw [e] at h
  obtain ⟨ps, z⟩ := f _ h
  exact n ps z
/-- what may be written without harm to the tables -/
def Plain : HO → Prop
  | .lst _ => True
  | .ins _ _ _ => True
  | .dK _ => True
  | _ => False
theorem Plain.tbl {o : HO} (h : Plain o) : ∀ ps, o ≠ .tbl ps := fun ps z => by
  rw [z] at h
  exact h
theorem Plain.code {o : HO} (h : Plain o) (c : Addr) (q : Str) : o ≠ CodeO c q := fun z => by
  rw [z] at h
  exact h
theorem tabs_mut {u : HO} (t : Tabs T H) (h : H p = some u) (hu : Plain u) : Tabs T (upd H p o) := fun q hq => by
  obtain ⟨ps, h1, h2, h3⟩ := t q hq
  refine ⟨ps, by rw [upd_ne (ne_of h1 h (hu.tbl ps).symm)]; exact h1, h2, fun pos cv hc => ?_⟩
  obtain ⟨c, e1, e2⟩ := h3 pos cv hc
  exact ⟨c, e1, by rw [upd_ne (ne_of e2 h (hu.code c _).symm)]; exact e2⟩
theorem Ext.mut {u : HO} (a : Ext T H H') (f : Fresh H p) (h : H' p = some u) (hu : Plain u := by trivial) : Ext T H (upd H' p o) :=
  ⟨fun b x e n => by
    rw [upd_ne (f.ne e n)]
    exact a.1 _ _ e n, fun t => tabs_mut (a.2 t) h hu⟩
theorem Ext.new' (a : Ext T H H') (h : H' p = none) : Ext T H (upd H' p o) := a.trans (.new h)
theorem Ext.sqL {a : Addr} {xs : List V} (e : Ext T H H') (h : SqL K H a xs) : SqL K H' a xs := QL.sqL_ext e.1 h
theorem Ext.sqT {a : Addr} {xs : List V} (e : Ext T H H') (h : SqT K H a xs) : SqT K H' a xs := QL.sqT_ext e.1 h
end

/-! ### words, ways, standings -/
abbrev Word := List Str
abbrev Ways := List (Option Nat)
abbrev Std := Word × Ways
abbrev Form := List Std
def vS (w : Word) : List V := w.map V.str
def vW : Option Nat → V
  | none => .non
  | some n => .int (n : Int)
def vWs (ws : Ways) : List V := ws.map vW
section
variable (H : Hp)
def WordAt (a : Addr) (w : Word) : Prop := H a = some (.lst (vS w))
def WaysAt (a : Addr) (w : Ways) : Prop := H a = some (.lst (vWs w))
def StdAt (t : Addr) (s : Std) : Prop := ∃ a b, H t = some (.tup [.ref a, .ref b]) ∧ WordAt H a s.1 ∧ WaysAt H b s.2
def FormAt (p : Addr) (F : Form) : Prop := ∃ ts : List Addr, H p = some (.lst (ts.map V.ref)) ∧ Paired (StdAt H) ts F
end
section
variable {T : List (Addr × Str)} {K : PySem.W.Frag} {H H' : Hp} {a p : Addr} {w : Word} {ws : Ways} {F : Form} {s : Std}
theorem Ext.word (e : Ext T H H') (h : WordAt H a w) : WordAt H' a w := e.lst h
theorem Ext.ways (e : Ext T H H') (h : WaysAt H a ws) : WaysAt H' a ws := e.lst h
theorem Ext.std (e : Ext T H H') (h : StdAt H a s) : StdAt H' a s := by
  obtain ⟨x, y, h1, h2, h3⟩ := h
  exact ⟨x, y, e.tup h1, e.word h2, e.ways h3⟩
theorem Ext.form (e : Ext T H H') (h : FormAt H p F) : FormAt H' p F := by
  obtain ⟨ts, h1, h2⟩ := h
  exact ⟨ts, e.lst h1, L2.Paired.mapP h2 fun t s h => e.std h⟩
theorem Same.word (e : Same H H') (h : WordAt H a w) : WordAt H' a w := e _ _ h
theorem Same.ways (e : Same H H') (h : WaysAt H a ws) : WaysAt H' a ws := e _ _ h
theorem Same.std (e : Same H H') (h : StdAt H a s) : StdAt H' a s := (Ext.of (T := []) e).std h
theorem Same.form (e : Same H H') (h : FormAt H p F) : FormAt H' p F := (Ext.of (T := []) e).form h
theorem paired_get {α β : Type} {R : α → β → Prop} : ∀ {l : List α} {m : List β} {i : Nat} {b : β}, Paired R l m → m[i]? = some b → ∃ a, l[i]? = some a ∧ R a b
  | _, _, _, _, .nil, e => by simp at e
  | _, _, 0, _, .cons h t, e => by
    simp at e
    subst e
    exact ⟨_, rfl, h⟩
  | _, _, i + 1, _, .cons h t, e => by
    obtain ⟨a, h1, h2⟩ := paired_get (i := i) t (by simpa using e)
    exact ⟨a, by simpa using h1, h2⟩
theorem paired_get' {α β : Type} {R : α → β → Prop} : ∀ {l : List α} {m : List β} {i : Nat} {a : α}, Paired R l m → l[i]? = some a → ∃ b, m[i]? = some b ∧ R a b
  | _, _, _, _, .nil, e => by simp at e
  | _, _, 0, _, .cons h t, e => by
    simp at e
    subst e
    exact ⟨_, rfl, h⟩
  | _, _, i + 1, _, .cons h t, e => by
    obtain ⟨a, h1, h2⟩ := paired_get' (i := i) t (by simpa using e)
    exact ⟨a, by simpa using h1, h2⟩
/-- the k-th standing: its tuple, its lists -/
theorem FormAt.at {k : Nat} (h : FormAt H p F) (e : F[k]? = some s) : ∃ (vs : List V) (t a b : Addr), H p = some (.lst vs) ∧ vs.length = F.length ∧ vs[k]? = some (.ref t) ∧ H t = some (.tup [.ref a, .ref b]) ∧ WordAt H a s.1 ∧ WaysAt H b s.2 := by
  obtain ⟨ts, h1, h2⟩ := h
  obtain ⟨t, ht, x, y, h3, h4, h5⟩ := paired_get h2 e
  exact ⟨_, t, x, y, h1, by rw [List.length_map, Paired.length h2], by rw [List.getElem?_map, ht]; rfl, h3, h4, h5⟩
theorem FormAt.lst (h : FormAt H p F) : ∃ vs : List V, H p = some (.lst vs) ∧ vs.length = F.length := by
  obtain ⟨ts, h1, h2⟩ := h
  exact ⟨_, h1, by rw [List.length_map, Paired.length h2]⟩
theorem vS_get {k : Nat} {x : Str} (h : w[k]? = some x) : (vS w)[k]? = some (.str x) := by
  unfold vS
  rw [List.getElem?_map, h]
  rfl
theorem vWs_get {k : Nat} {x : Option Nat} (h : ws[k]? = some x) : (vWs ws)[k]? = some (vW x) := by
  unfold vWs
  rw [List.getElem?_map, h]
  rfl
theorem vS_len : (vS w).length = w.length := List.length_map _
theorem vWs_len : (vWs ws).length = ws.length := List.length_map _
theorem vS_flat : (vS w).all flatV = true := by
  rw [List.all_eq_true]
  intro x hx
  obtain ⟨s, _, rfl⟩ := List.mem_map.mp hx
  rfl
theorem eqV_str (x y : Str) : eqV (.str x) (.str y) = decide (x = y) := by
  by_cases h : x = y
  · subst h
    simp [eqV]
  · simp [eqV, h]
theorem inV_word (x : Str) : inV (.str x) (vS w) = decide (x ∈ w) := by
  unfold inV vS
  induction w with
  | nil => rfl
  | cons y w ih =>
    rw [List.map_cons, List.any_cons, ih, eqV_str]
    by_cases h : y = x
    · subst h
      simp
    · simp [h, Ne.symm h]
theorem vW_is (x : Option Nat) : decide (vW x = .non) = x.isNone := by
  cases x <;> rfl
theorem vS_append (v w : Word) : vS v ++ vS w = vS (v ++ w) := (List.map_append ..).symm
theorem cut_drop (xs : List V) (k : Nat) : cutV xs (some (k : Int)) none = xs.drop k := by
  unfold cutV
  rw [HT.sIx_nat, HT.sIx_none]
  by_cases h : k ≤ xs.length
  · rw [Nat.min_eq_left h, List.take_of_length_le (by rw [List.length_drop]; exact Nat.le_refl _)]
  · rw [Nat.min_eq_right (by omega), List.drop_eq_nil_of_le (Nat.le_refl _), List.drop_eq_nil_of_le (by omega), List.take_nil]
theorem cut_take (xs : List V) (k : Nat) : cutV xs none (some (k : Int)) = xs.take k := by
  unfold cutV
  rw [HT.sIx_nat, HT.sIx_none, List.drop_zero, Nat.sub_zero]
  by_cases h : k ≤ xs.length
  · rw [Nat.min_eq_left h]
  · rw [Nat.min_eq_right (by omega), List.take_of_length_le (Nat.le_refl _), List.take_of_length_le (by omega)]
theorem vS_drop (w : Word) (k : Nat) : (vS w).drop k = vS (w.drop k) := List.map_drop.symm
theorem vS_take (w : Word) (k : Nat) : (vS w).take k = vS (w.take k) := List.map_take.symm
theorem idxOf_min {tags : Word} {t : Str} : ∀ {m : Nat}, m < tags.idxOf t → ∀ {x}, tags[m]? = some x → x ≠ t := by
  induction tags with
  | nil => intro m h x e; simp at e
  | cons y tags ih =>
    intro m h x e z
    subst z
    rw [List.idxOf_cons] at h
    by_cases hy : y == x
    · rw [hy] at h
      simp at h
    · rw [Bool.not_eq_true] at hy
      rw [hy] at h
      simp at h
      cases m with
      | zero =>
        simp at e
        subst e
        simp at hy
      | succ m => exact ih (m := m) (by omega) (by simpa using e) rfl
/-- tags.index(tag), there -/
theorem index_word {tags : Word} {t : Str} {Q : VK} (h : WordAt H a tags) (ht : t ∈ tags) (q : Q (.int (tags.idxOf t : Nat)) H) : rIndex K (.ref a) [.str t] H Q := by
  have hlt : tags.idxOf t < tags.length := List.idxOf_lt_length_of_mem ht
  refine ⟨a, vS tags, .str t, tags.idxOf t, .str t, rfl, rfl, SqL.of h, rfl, vS_flat, vS_get ?_, by rw [eqV_str]; simp, fun m z hm hz => ?_, q⟩
  · rw [List.getElem?_eq_getElem hlt, List.getElem_idxOf]
  · have hm' : m < tags.length := Nat.lt_trans hm hlt
    have e : tags[m]? = some tags[m] := by simp [hm']
    rw [vS_get e] at hz
    cases hz
    rw [eqV_str]
    exact decide_eq_false (idxOf_min hm e)

/-! ### comprehensions whose elements leave all as it was -/
theorem sz_le {n : Nat} (h : n ≤ 100000) : n ≤ sizeLine := Nat.le_trans h (by decide)
theorem sz_lt {n : Nat} (h : n < 100000) : n < sizeLine := Nat.lt_of_lt_of_le h (by decide)
theorem lc_filter {J : It} {n : Nat} {G : Hp → Prop} {Y : Nat → Hp → V → Hp → Prop} (w : Walk J n G Y) {g : TG} {tt : TT} {te : TE} {vs : List Nat} {σ : L2.St} {H1 : Hp} {D : Addr} {Qd : Hp → Prop} (hD : H1 D = none) (hn : n ≤ 100000)
    (hG : ∀ H, Same H1 H → G H) (f : Nat → V) (p : Nat → Bool)
    (hs : ∀ (i : Nat) (x : V) (H H' : Hp) (k : VK) (N : Hp → Prop), i < n → Same H1 H → Y i H x H' → (p i = true → ∀ H4, Same H H4 → k (f i) H4) → (p i = false → ∀ H4, Same H H4 → N H4) →
      g x (wipe σ vs) H' fun σ2 H2 => wipe σ2 vs = wipe σ vs ∧ tt σ2 H2 fun b H3 => if b = true then te σ2 H3 k else N H3)
    (hd : ∀ H, Same H1 H → H D = some (.lst (((List.range n).filter p).map f)) → Qd H) :
    ∃ W : Nat → Nat → Hp → Prop, (∃ m, W 0 m (upd H1 D (.lst []))) ∧ ∀ i m H, W i m H →
      (J.stop i H ∧ Qd H) ∨ (J.go i H ∧ ∃ Nx : Hp → Prop, (∀ H', Nx H' → ∃ m', m' < m ∧ W (i + 1) m' H') ∧ ∀ x H', J.yld i H x H' → g x (wipe σ vs) H' fun σ2 H2 => wipe σ2 vs = wipe σ vs ∧ tt σ2 H2 fun b H3 =>
        if b = true then te σ2 H3 fun y H4 => ∃ acc, H4 D = some (.lst acc) ∧ acc.length < sizeLine ∧ Nx (upd H4 D (.lst (acc ++ [y]))) else Nx H3) := by
  refine lc_it w (fun i H => Same H1 H ∧ H D = some (.lst (((List.range i).filter p).map f))) ⟨Same.mut (Same.refl H1) hD, upd_same⟩ (fun i H _ h => hG H h.1) (fun i x H H' hi h y => ?_) fun H h => hd H h.1 h.2
  obtain ⟨s1, e⟩ := h
  refine hs i x H H' _ _ hi s1 y (fun hp H4 s4 => ⟨_, s4 _ _ e, ?_, Same.mut (s1.trans s4) hD, ?_⟩) (fun hp H4 s4 => ⟨s1.trans s4, ?_⟩)
  · have h1 := List.length_filter_le p (List.range i)
    rw [List.length_range] at h1
    rw [List.length_map]
    exact sz_lt (by omega)
  · rw [upd_same, List.range_succ, List.filter_append, List.map_append, List.filter_cons, if_pos hp]
    rfl
  · rw [s4 _ _ e, List.range_succ, List.filter_append, List.map_append, List.filter_cons, if_neg (by rw [hp]; decide)]
    simp
theorem lc_map {J : It} {n : Nat} {G : Hp → Prop} {Y : Nat → Hp → V → Hp → Prop} (w : Walk J n G Y) {g : TG} {te : TE} {vs : List Nat} {σ : L2.St} {H1 : Hp} {D : Addr} {Qd : Hp → Prop} (hD : H1 D = none) (hn : n ≤ 100000)
    (hG : ∀ H, Same H1 H → G H) (f : Nat → V)
    (hs : ∀ (i : Nat) (x : V) (H H' : Hp) (k : VK), i < n → Same H1 H → Y i H x H' → (∀ H4, Same H H4 → k (f i) H4) →
      g x (wipe σ vs) H' fun σ2 H2 => wipe σ2 vs = wipe σ vs ∧ te σ2 H2 k)
    (hd : ∀ H, Same H1 H → H D = some (.lst ((List.range n).map f)) → Qd H) :
    ∃ W : Nat → Nat → Hp → Prop, (∃ m, W 0 m (upd H1 D (.lst []))) ∧ ∀ i m H, W i m H →
      (J.stop i H ∧ Qd H) ∨ (J.go i H ∧ ∃ Nx : Hp → Prop, (∀ H', Nx H' → ∃ m', m' < m ∧ W (i + 1) m' H') ∧ ∀ x H', J.yld i H x H' → g x (wipe σ vs) H' fun σ2 H2 => wipe σ2 vs = wipe σ vs ∧ tYes σ2 H2 fun b H3 =>
        if b = true then te σ2 H3 fun y H4 => ∃ acc, H4 D = some (.lst acc) ∧ acc.length < sizeLine ∧ Nx (upd H4 D (.lst (acc ++ [y]))) else Nx H3) := by
  refine lc_it w (fun i H => Same H1 H ∧ H D = some (.lst ((List.range i).map f))) ⟨Same.mut (Same.refl H1) hD, upd_same⟩ (fun i H _ h => hG H h.1) (fun i x H H' hi h y => ?_) fun H h => hd H h.1 h.2
  obtain ⟨s1, e⟩ := h
  have q := hs i x H H' (fun y H4 => ∃ acc, H4 D = some (.lst acc) ∧ acc.length < sizeLine ∧ (Same H1 (upd H4 D (.lst (acc ++ [y]))) ∧ (upd H4 D (.lst (acc ++ [y]))) D = some (.lst ((List.range (i + 1)).map f)))) hi s1 y
    fun H4 s4 => ⟨_, s4 _ _ e, by rw [List.length_map, List.length_range]; exact sz_lt (by omega), Same.mut (s1.trans s4) hD, by rw [upd_same, List.range_succ, List.map_append]; rfl⟩
  exact q
/-- a list by its places -/
theorem range_map_get {α : Type} (f : Nat → V) (l : List α) (h : α → V) (e : ∀ (i : Nat) (x : α), l[i]? = some x → f i = h x) : (List.range l.length).map f = l.map h := by
  refine List.ext_getElem? fun i => ?_
  rw [List.getElem?_map, List.getElem?_map]
  by_cases hi : i < l.length
  · rw [List.getElem?_range hi, List.getElem?_eq_getElem hi]
    exact congrArg some (e i _ (List.getElem?_eq_getElem hi))
  · rw [List.getElem?_eq_none (by rw [List.length_range]; omega), List.getElem?_eq_none (by omega)]
    rfl
theorem filter_range {α : Type} (q : α → Bool) (h : α → V) (p : Nat → Bool) (f : Nat → V) (l : List α) (e : ∀ (i : Nat) (x : α), l[i]? = some x → p i = q x ∧ f i = h x) : ((List.range l.length).filter p).map f = (l.filter q).map h := by
  have all : ∀ n, n ≤ l.length → ((List.range n).filter p).map f = ((l.take n).filter q).map h := by
    intro n
    induction n with
    | zero => intro _; rfl
    | succ n ih =>
      intro hn
      have ha : l[n]? = some (l[n]'(by omega)) := List.getElem?_eq_getElem (by omega)
      obtain ⟨e1, e2⟩ := e n _ ha
      rw [List.range_succ, List.filter_append, List.map_append, List.take_succ, ha, List.filter_append, List.map_append, ih (by omega), List.filter_cons, e1]
      by_cases hq : q (l[n]'(by omega)) = true
      · rw [if_pos hq]
        simp [hq, e2]
      · rw [if_neg hq]
        simp [hq]
  have := all l.length (Nat.le_refl _)
  rwa [List.take_length] at this

/-! ### what loops give -/
theorem walk_enumW : Walk (Ite K a) w.length (fun H => WordAt H a w) (fun i H v H' => ∃ (t : Addr) (x : Str), w[i]? = some x ∧ H t = none ∧ v = .ref t ∧ H' = upd H t (.tup [.int (i : Nat), .str x])) := by
  have e := walk_enum (K := K) (a := a) (xs := vS w)
  rw [vS_len] at e
  refine e.mono (fun H h => SqL.of h) fun i H v H' hi _ y => ?_
  obtain ⟨t, x, z, h1, h2, h3, h4, h5⟩ := y
  cases h4
  have h5 : (vS w)[i]? = some z := h5
  have hw : w[i]? = some w[i] := by simp [hi]
  rw [vS_get hw] at h5
  cases h5
  exact ⟨t, _, hw, h2, h1, h3⟩
theorem walk_listW : Walk (Itl K a) w.length (fun H => WordAt H a w) (fun i H v H' => ∃ x : Str, w[i]? = some x ∧ v = .str x ∧ H' = H) := by
  have e := walk_list (K := K) (a := a) (xs := vS w)
  rw [vS_len] at e
  refine e.mono (fun H h => SqL.of h) fun i H v H' hi _ y => ?_
  obtain ⟨h1, h2⟩ := y
  have hw : w[i]? = some w[i] := by simp [hi]
  rw [vS_get hw] at h2
  cases h2
  exact ⟨_, hw, rfl, h1⟩
theorem walk_listWs : Walk (Itl K a) ws.length (fun H => WaysAt H a ws) (fun i H v H' => ∃ x : Option Nat, ws[i]? = some x ∧ v = vW x ∧ H' = H) := by
  have e := walk_list (K := K) (a := a) (xs := vWs ws)
  rw [vWs_len] at e
  refine e.mono (fun H h => SqL.of h) fun i H v H' hi _ y => ?_
  obtain ⟨h1, h2⟩ := y
  have hw : ws[i]? = some ws[i] := by simp [hi]
  rw [vWs_get hw] at h2
  cases h2
  exact ⟨_, hw, rfl, h1⟩
/-- a form's standings, the heap as it was -/
theorem walk_listF : Walk (Itl K p) F.length (fun H => FormAt H p F) (fun i H v H' => ∃ (s : Std) (t a b : Addr), F[i]? = some s ∧ v = .ref t ∧ H' = H ∧ H t = some (.tup [.ref a, .ref b]) ∧ WordAt H a s.1 ∧ WaysAt H b s.2) := by
  refine ⟨fun i H hi h => ?_, fun H h => ?_, fun i H v H' hi h y => ?_⟩
  · obtain ⟨vs, t, a, b, h1, h2, h3, _⟩ := FormAt.at h (show F[i]? = some F[i] by simp [hi])
    exact ⟨vs, _, SqL.of h1, h3⟩
  · obtain ⟨vs, h1, h2⟩ := FormAt.lst h
    exact ⟨_, SqL.of h1, by rw [h2]; exact Nat.le_refl _⟩
  · have e : F[i]? = some F[i] := by simp [hi]
    obtain ⟨vs, t, a, b, h1, h2, h3, h4, h5, h6⟩ := FormAt.at h e
    obtain ⟨y1, y2⟩ := y
    have := y2 vs (SqL.of h1)
    rw [h3] at this
    cases this
    exact ⟨_, t, a, b, e, rfl, y1, h4, h5, h6⟩
end

/-! ### a form of one's own: new lists throughout, no list twice -/
abbrev Tri := Addr × Addr × Addr
def inner (L : List Tri) : List Addr := L.flatMap fun x => [x.2.1, x.2.2]
structure NewL (H0 H : Hp) (L : List Tri) (F : Form) : Prop where
  at_ : Paired (fun (x : Tri) (s : Std) => H x.1 = some (.tup [.ref x.2.1, .ref x.2.2]) ∧ WordAt H x.2.1 s.1 ∧ WaysAt H x.2.2 s.2) L F
  new : ∀ x ∈ L, Fresh H0 x.1 ∧ Fresh H0 x.2.1 ∧ Fresh H0 x.2.2
  nd : (inner L).Nodup
structure NewF (H0 H : Hp) (p : Addr) (L : List Tri) (F : Form) : Prop where
  lst : H p = some (.lst (L.map fun x => V.ref x.1))
  all : NewL H0 H L F
  new : Fresh H0 p
  out : p ∉ inner L
section
variable {T : List (Addr × Str)} {H0 H H' : Hp} {L : List Tri} {F : Form} {p t a b : Addr} {s : Std}
theorem NewL.nil : NewL H0 H [] [] := ⟨.nil, (fun _ h => nomatch h), List.nodup_nil⟩
theorem NewL.ext (n : NewL H0 H L F) (e : Ext T H H') : NewL H0 H' L F :=
  ⟨L2.Paired.mapP n.at_ fun _ _ h => ⟨e.tup h.1, e.word h.2.1, e.ways h.2.2⟩, n.new, n.nd⟩
theorem NewL.same (n : NewL H0 H L F) (e : Same H H') : NewL H0 H' L F := n.ext (Ext.of (T := []) e)
theorem NewF.ext (n : NewF H0 H p L F) (e : Ext T H H') : NewF H0 H' p L F := ⟨e.lst n.lst, n.all.ext e, n.new, n.out⟩
theorem NewF.same (n : NewF H0 H p L F) (e : Same H H') : NewF H0 H' p L F := n.ext (Ext.of (T := []) e)
theorem NewL.old {H1 : Hp} (n : NewL H H' L F) (e : Ext T H1 H) : NewL H1 H' L F := ⟨n.at_, fun x hx => ⟨e.fresh (n.new x hx).1, e.fresh (n.new x hx).2.1, e.fresh (n.new x hx).2.2⟩, n.nd⟩
theorem NewF.old {H1 : Hp} (n : NewF H H' p L F) (e : Ext T H1 H) : NewF H1 H' p L F := ⟨n.lst, n.all.old e, e.fresh n.new, n.out⟩
theorem mem_inner {q : Addr} (h : q ∈ inner L) : ∃ x ∈ L, q = x.2.1 ∨ q = x.2.2 := by
  obtain ⟨x, hx, hq⟩ := List.mem_flatMap.mp h
  refine ⟨x, hx, ?_⟩
  simpa using hq
theorem NewL.there (n : NewL H0 H L F) {q : Addr} (h : q ∈ inner L) : ∃ xs, H q = some (.lst xs) := by
  obtain ⟨x, hx, hq⟩ := mem_inner h
  obtain ⟨i, hi, e⟩ := List.mem_iff_getElem.mp hx
  obtain ⟨s, _, h1, h2, h3⟩ := paired_get' n.at_ (show L[i]? = some x by rw [List.getElem?_eq_getElem hi, e])
  rcases hq with rfl | rfl
  · exact ⟨_, h2⟩
  · exact ⟨_, h3⟩
theorem inner_append (L M : List Tri) : inner (L ++ M) = inner L ++ inner M := List.flatMap_append
theorem NewL.snoc (n : NewL H0 H L F) (e : Same H H') (ha : H a = none) (hb : H b = none) (hab : a ≠ b) (h1 : H' t = some (.tup [.ref a, .ref b])) (h2 : WordAt H' a s.1) (h3 : WaysAt H' b s.2) (f1 : Fresh H0 t) (f2 : Fresh H0 a) (f3 : Fresh H0 b) :
    NewL H0 H' (L ++ [(t, a, b)]) (F ++ [s]) := by
  refine ⟨Paired.snoc (n.same e).at_ ⟨h1, h2, h3⟩, fun x hx => ?_, ?_⟩
  · rcases List.mem_append.mp hx with hx | hx
    · exact n.new x hx
    · rw [List.mem_singleton.mp hx]
      exact ⟨f1, f2, f3⟩
  · rw [inner_append, List.nodup_append]
    refine ⟨n.nd, ?_, fun x hx y hy => ?_⟩
    · show [a, b].Nodup
      simp [hab]
    · obtain ⟨xs, hxs⟩ := n.there hx
      have hy : y = a ∨ y = b := by simpa [inner] using hy
      rcases hy with rfl | rfl
      · exact ne_of_none hxs ha
      · exact ne_of_none hxs hb
theorem NewL.form (n : NewL H0 H L F) (h : H p = some (.lst (L.map fun x => V.ref x.1))) : FormAt H p F := by
  refine ⟨L.map (·.1), by rw [List.map_map]; exact h, ?_⟩
  have e := n.at_
  clear h n
  induction e with
  | nil => exact .nil
  | cons h _ ih => exact .cons ⟨_, _, h.1, h.2.1, h.2.2⟩ ih
theorem NewF.form (n : NewF H0 H p L F) : FormAt H p F := n.all.form n.lst
theorem NewL.len (n : NewL H0 H L F) : L.length = F.length := Paired.length n.at_
theorem NewF.mk' (n : NewL H0 H L F) (h : H p = some (.lst (L.map fun x => V.ref x.1))) (f : Fresh H0 p) (o : p ∉ inner L) : NewF H0 H p L F := ⟨h, n, f, o⟩
/-- its k-th standing -/
theorem NewL.get (n : NewL H0 H L F) {k : Nat} (e : F[k]? = some s) : ∃ x : Tri, L[k]? = some x ∧ H x.1 = some (.tup [.ref x.2.1, .ref x.2.2]) ∧ WordAt H x.2.1 s.1 ∧ WaysAt H x.2.2 s.2 := paired_get n.at_ e
/-- another list is written -/
theorem paired_mem {α β : Type} {R S : α → β → Prop} : ∀ {l : List α} {m : List β}, Paired R l m → (∀ a b, a ∈ l → R a b → S a b) → Paired S l m
  | _, _, .nil, _ => .nil
  | _, _, .cons h t, f => .cons (f _ _ List.mem_cons_self h) (paired_mem t fun a b ha hr => f a b (List.mem_cons_of_mem _ ha) hr)
theorem NewL.upd {xs ys : List V} (n : NewL H0 H L F) (h : H p = some (.lst xs)) (o : p ∉ inner L) : NewL H0 (upd H p (.lst ys)) L F := by
  refine ⟨paired_mem n.at_ fun x s hx r => ?_, n.new, n.nd⟩
  have h1 : x.2.1 ≠ p := fun e => o (List.mem_flatMap.mpr ⟨x, hx, by simp [e]⟩)
  have h2 : x.2.2 ≠ p := fun e => o (List.mem_flatMap.mpr ⟨x, hx, by simp [e]⟩)
  exact ⟨(upd_ne (ne_of r.1 h (fun z => nomatch z))).trans r.1, Eq.trans (upd_ne h1) r.2.1, Eq.trans (upd_ne h2) r.2.2⟩
theorem NewL.updD {kvs : List (Key × V)} {u : HO} (n : NewL H0 H L F) (h : H p = some (.dK kvs)) : NewL H0 (L2.upd H p u) L F := by
  refine ⟨paired_mem n.at_ fun x s hx r => ?_, n.new, n.nd⟩
  exact ⟨(upd_ne (ne_of r.1 h (fun z => nomatch z))).trans r.1, Eq.trans (upd_ne (ne_of r.2.1 h (fun z => nomatch z))) r.2.1, Eq.trans (upd_ne (ne_of r.2.2 h (fun z => nomatch z))) r.2.2⟩
theorem not_inner_snoc (o : p ∉ inner L) (ha : p ≠ a) (hb : p ≠ b) : p ∉ inner (L ++ [(t, a, b)]) := by
  rw [inner_append]
  simp [inner] at o ⊢
  exact ⟨o, ha, hb⟩
/-- the ways of one standing are written anew -/
theorem NewL.setWays : ∀ {L : List Tri} {F : Form} {k : Nat} {x : Tri} {s : Std} {ws : Ways}, NewL H0 H L F → L[k]? = some x → F[k]? = some s → NewL H0 (L2.upd H x.2.2 (.lst (vWs ws))) L (F.set k (s.1, ws))
  | [], _, k, _, _, _, _, e, _ => by simp at e
  | y :: L, [], k, _, _, _, _, _, e => by simp at e
  | y :: L, f :: F, 0, x, s, ws, n, e1, e2 => by
    simp at e1 e2
    subst e1 e2
    obtain ⟨p, nw, nd⟩ := n
    cases p with
    | cons h t =>
      have nd' : (y.2.1 :: y.2.2 :: inner L).Nodup := nd
      rw [List.nodup_cons, List.nodup_cons] at nd'
      obtain ⟨d1, d2, d3⟩ := nd'
      have rest := NewL.upd (p := y.2.2) (ys := vWs ws) ⟨t, fun z hz => nw z (List.mem_cons_of_mem _ hz), d3⟩ h.2.2 d2
      refine ⟨?_, nw, nd⟩
      rw [List.set_cons_zero]
      exact .cons ⟨(upd_ne (ne_of h.1 h.2.2 (fun z => nomatch z))).trans h.1, Eq.trans (upd_ne fun z => d1 (by rw [z]; exact List.mem_cons_self)) h.2.1, upd_same⟩ rest.at_
  | y :: L, f :: F, k + 1, x, s, ws, n, e1, e2 => by
    rw [List.getElem?_cons_succ] at e1 e2
    obtain ⟨p, nw, nd⟩ := n
    cases p with
    | cons h t =>
      have nd' : (y.2.1 :: y.2.2 :: inner L).Nodup := nd
      rw [List.nodup_cons, List.nodup_cons] at nd'
      obtain ⟨d1, d2, d3⟩ := nd'
      have n' : NewL H0 H L F := ⟨t, fun z hz => nw z (List.mem_cons_of_mem _ hz), d3⟩
      have rest := NewL.setWays (ws := ws) n' e1 e2
      obtain ⟨z, hz, hz1, hz2, hz3⟩ := n'.get e2
      rw [e1] at hz
      cases hz
      have hx : x.2.2 ∈ inner L := List.mem_flatMap.mpr ⟨x, List.mem_of_getElem? e1, by simp⟩
      refine ⟨?_, nw, nd⟩
      rw [List.set_cons_succ]
      exact .cons ⟨(upd_ne (ne_of h.1 hz3 (fun z => nomatch z))).trans h.1, Eq.trans (upd_ne fun z => d1 (by rw [z]; exact List.mem_cons_of_mem _ hx)) h.2.1, Eq.trans (upd_ne fun z => d2 (by rw [z]; exact hx)) h.2.2⟩ rest.at_
end

/-! ### words compared -/
def txts (w : Word) : List PyData := w.map .str
theorem dpAll_word (K : PySem.W.Frag) (H : Hp) : ∀ w : Word, DpAll K H (vS w) (txts w)
  | [] => .nil
  | _ :: w => .cons (.str _) (dpAll_word K H w)
theorem dp_word {K : PySem.W.Frag} {H : Hp} {a : Addr} {w : Word} (h : WordAt H a w) : Dp K H (.ref a) (.list (txts w)) := .lst (SqL.of h) (dpAll_word K H w)
theorem eqvAll_txts : ∀ v w : Word, PyData.eqvAll (txts v) (txts w) = decide (v = w)
  | [], [] => rfl
  | [], _ :: _ => rfl
  | _ :: _, [] => rfl
  | x :: v, y :: w => by
    show (x == y && PyData.eqvAll (txts v) (txts w)) = _
    rw [eqvAll_txts v w]
    by_cases h : x = y
    · subst h
      by_cases h2 : v = w <;> simp [h2]
    · simp [h]
theorem layAll_txts : ∀ w : Word, (∀ t ∈ w, PyData.strOk t = true) → PyData.canLayAll0 (txts w) = true
  | [], _ => rfl
  | x :: w, h => by
    show (PyData.strOk x && PyData.canLayAll0 (txts w)) = true
    rw [h x List.mem_cons_self, layAll_txts w fun t ht => h t (List.mem_cons_of_mem _ ht)]
    rfl
theorem depthAll_txts : ∀ w : Word, PyData.depthAll (txts w) = 0
  | [] => rfl
  | x :: w => by
    show max 0 (PyData.depthAll (txts w)) = 0
    rw [depthAll_txts w]
    rfl
theorem shaped_word {w : Word} (h : ∀ t ∈ w, PyData.strOk t = true) : SeqAt.shaped (.list (txts w)) = true := by
  unfold SeqAt.shaped
  rw [Bool.and_eq_true]
  refine ⟨layAll_txts w h, decide_eq_true ?_⟩
  show PyData.depthAll (txts w) + 1 ≤ 64
  rw [depthAll_txts]
  decide
theorem eq_words {K : PySem.W.Frag} {H : Hp} {a b : Addr} {v w : Word} {Q : VK} (hv : WordAt H a v) (hw : WordAt H b w) (ov : ∀ t ∈ v, PyData.strOk t = true) (ow : ∀ t ∈ w, PyData.strOk t = true) (q : Q (.bl (decide (v = w))) H) : rEqD K (.ref a) (.ref b) H Q :=
  ⟨_, _, dp_word hv, dp_word hw, shaped_word ov, shaped_word ow, by
    show Q (.bl (PyData.eqvAll (txts v) (txts w))) H
    rw [eqvAll_txts]
    exact q⟩
theorem ne_words {K : PySem.W.Frag} {H : Hp} {a b : Addr} {v w : Word} {Q : VK} (hv : WordAt H a v) (hw : WordAt H b w) (ov : ∀ t ∈ v, PyData.strOk t = true) (ow : ∀ t ∈ w, PyData.strOk t = true) (q : Q (.bl (!decide (v = w))) H) : rNeD K (.ref a) (.ref b) H Q :=
  ⟨_, _, dp_word hv, dp_word hw, shaped_word ov, shaped_word ow, by
    show Q (.bl (!PyData.eqvAll (txts v) (txts w))) H
    rw [eqvAll_txts]
    exact q⟩

/-! ### a def whose code object is told -/
structure FunC (K : PySem.W.Frag) (x qual : Str) (st : Stmt) (f : Addr) (fd : FuncData) (c : Addr) : Prop where
  ex : ∃ (oc : Value) (od : Option Addr) (kV doc pm : Value) (an : Option Addr) (ct : Value) (osl : Array (Option Value)),
    fd = PySem.W.fnOf x qual (defArgs st) (defBody st) (defScope st) .none kV doc pm an (.ref c) ct ∧ K.lookup f = some ⟨oc, od, .func fd, osl⟩ ∧ PySem.W.codeIn K (.ref c) qual = true
theorem FunC.ok {P : Program} {w : World} {K : PySem.W.Frag} {mg : Str → Option Value} {base : Heap} {x qual : Str} {st : Stmt} {f c : Addr} {fd : FuncData} {N ps : List Str} {k : Nat} {sp : Sp} (F : FunC K x qual st f fd c) (S : FnScope N ps (defScope st)) (len : ∀ vs H Q E, sp vs H Q E → vs.length = ps.length)
    (hbody : ∀ (A : Around) (outer : List Env) (s : Shared) (H : Hp) (vs : List V) (Q : VK) (E : XK), Room k (A.deeper (envOfC qual (defScope st) s.heap.objs.size f (.ref c))) → sp vs H Q E →
      ∃ t, PSs (cxOf CX0 P w K mg base N qual (defScope st) f (.ref c) A outer s H E).nox (defBody st) t ∧ t { nx := fun _ H' => Q .non H', rt := Q } (L2.start N vs) H) : FnOk P w K mg base CX0 (k + 1) f fd ps sp := by
  obtain ⟨oc, od, kV, doc, pm, an, ct, osl, rfl, lk, hcd⟩ := F.ex
  exact fn_of lk hcd S len fun A outer s H vs Q E hr hsp => by
    obtain ⟨t, h, q⟩ := hbody A outer s H vs Q E hr hsp
    exact ⟨t, h.nox, q⟩
end QB
end

section
set_option linter.all false
set_option autoImplicit false
/-! mirrors: plain functions over words and standings -/
namespace QM
open PySem QB

def ixOf (tags : List Str) (t : Str) : Nat := tags.idxOf t
/-- the way of a standing for a tag -/
def way (tags : List Str) (s : Std) (t : Str) : Option Nat := (s.2[ixOf tags t]?).join
def wayAt (tags : List Str) (F : Form) (at_ : Nat) (t : Str) : Option Nat := (F[at_]?).bind fun s => way tags s t
def walkFrom (tags : List Str) (F : Form) : Nat → Nat → Word → Nat × Nat
  | at_, k, [] => (at_, k)
  | at_, k, t :: w => match wayAt tags F at_ t with
    | none => (at_, k)
    | some b => walkFrom tags F b (k + 1) w
def walk (tags : List Str) (F : Form) (w : Word) : Nat × Nat := walkFrom tags F 0 0 w
def wordOf (F : Form) (k : Nat) : Word := ((F[k]?).map (·.1)).getD []
def make (tags : List Str) (F : Form) (w : Word) : Word := wordOf F (walk tags F w).1 ++ w.drop (walk tags F w).2

structure Good (tags : List Str) (F : Form) : Prop where
  pos : 0 < F.length
  len : ∀ s ∈ F, s.2.length = tags.length
  to : ∀ s ∈ F, ∀ n, some n ∈ s.2 → n < F.length
  small : F.length ≤ 5000
theorem Good.way_lt {tags : List Str} {F : Form} (g : Good tags F) {s : Std} (hs : s ∈ F) {k n : Nat} (h : s.2[k]? = some (some n)) : n < F.length := g.to s hs n (List.mem_of_getElem? h)
theorem mem_of {F : Form} {k : Nat} {s : Std} (h : F[k]? = some s) : s ∈ F := List.mem_of_getElem? h
theorem Good.ways {tags : List Str} {F : Form} (g : Good tags F) {k : Nat} {s : Std} (h : F[k]? = some s) : s.2.length = tags.length := g.len s (mem_of h)
/-- the way of a standing for one of the tags -/
theorem Good.way {tags : List Str} {F : Form} (g : Good tags F) {k : Nat} {s : Std} {t : Str} (h : F[k]? = some s) (ht : t ∈ tags) : s.2[tags.idxOf t]? = some (way tags s t) := by
  have hlt : tags.idxOf t < s.2.length := by rw [g.ways h]; exact List.idxOf_lt_length_of_mem ht
  unfold QM.way ixOf
  rw [List.getElem?_eq_getElem hlt]
  rfl
theorem wayAt_of {tags : List Str} {F : Form} {k : Nat} {s : Std} {t : Str} (h : F[k]? = some s) : wayAt tags F k t = way tags s t := by
  unfold wayAt
  rw [h]
  rfl
theorem Good.wayLt {tags : List Str} {F : Form} (g : Good tags F) {k n : Nat} {s : Std} {t : Str} (h : F[k]? = some s) (ht : t ∈ tags) (e : QM.way tags s t = some n) : n < F.length := by
  have q := g.way h ht
  rw [e] at q
  exact g.way_lt (mem_of h) q
theorem wordOf_of {F : Form} {k : Nat} {s : Std} (h : F[k]? = some s) : wordOf F k = s.1 := by
  unfold wordOf
  rw [h]
  rfl
theorem walkFrom_lt {tags : List Str} {F : Form} (g : Good tags F) : ∀ (w : Word) (at_ k : Nat), at_ < F.length → (∀ t ∈ w, t ∈ tags) → (walkFrom tags F at_ k w).1 < F.length ∧ k ≤ (walkFrom tags F at_ k w).2 ∧ (walkFrom tags F at_ k w).2 ≤ k + w.length
  | [], at_, k, h, _ => ⟨h, Nat.le_refl _, Nat.le_refl _⟩
  | t :: w, at_, k, h, ht => by
    unfold walkFrom
    cases e : wayAt tags F at_ t with
    | none => exact ⟨h, Nat.le_refl _, Nat.le_add_right _ _⟩
    | some b =>
      have hF : F[at_]? = some F[at_] := by simp [h]
      have hb : b < F.length := g.wayLt hF (ht t List.mem_cons_self) (by rw [← wayAt_of hF]; exact e)
      obtain ⟨h1, h2, h3⟩ := walkFrom_lt g w b (k + 1) hb fun x hx => ht x (List.mem_cons_of_mem _ hx)
      show (walkFrom tags F b (k + 1) w).1 < F.length ∧ k ≤ (walkFrom tags F b (k + 1) w).2 ∧ (walkFrom tags F b (k + 1) w).2 ≤ k + (t :: w).length
      rw [List.length_cons]
      exact ⟨h1, by omega, by omega⟩
theorem walk_lt {tags : List Str} {F : Form} (g : Good tags F) {w : Word} (h : ∀ t ∈ w, t ∈ tags) : (walk tags F w).1 < F.length ∧ (walk tags F w).2 ≤ w.length := by
  obtain ⟨h1, _, h3⟩ := walkFrom_lt g w 0 0 g.pos h
  exact ⟨h1, by rw [Nat.zero_add] at h3; exact h3⟩

/-! ### classes of standings -/
open L2 in
def wayNum (cs : List Nat) : Option Nat → NestedKey
  | none => .num (-1)
  | some n => .num ((cs.getD n 0 : Nat) : Int)
def partKey (cs : List Nat) (p : Nat × Std) : NestedKey := .tup [.num (p.1 : Int), .tup (p.2.2.map (wayNum cs))]
def partKeys (cs : List Nat) (F : Form) : List NestedKey := (cs.zip F).map (partKey cs)
def part (cs : List Nat) (F : Form) : List Nat := QD.numb (partKeys cs F)
def wordKey (s : Std) : NestedKey := .tup (s.1.map .text)
def wordKeys (F : Form) : List NestedKey := F.map wordKey
def maxOf (cs : List Nat) : Nat := cs.foldl max 0
def alikeLoop (F : Form) : Nat → Nat → List Nat → List Nat
  | 0, _, cs => cs
  | f + 1, many, cs => if many ≤ maxOf cs then alikeLoop F f (maxOf cs + 1) (part cs F) else cs
def alike (F : Form) : List Nat := alikeLoop F (F.length + 1) 0 (QD.numb (wordKeys F))

theorem partKeys_len {cs : List Nat} {F : Form} (h : cs.length = F.length) : (partKeys cs F).length = F.length := by
  unfold partKeys
  rw [List.length_map, List.length_zip, h, Nat.min_self]
theorem part_len {cs : List Nat} {F : Form} (h : cs.length = F.length) : (part cs F).length = F.length := by
  unfold part
  rw [QD.numb_len, partKeys_len h]
theorem maxOf_le : ∀ (cs : List Nat) (a b : Nat), cs.foldl max a ≤ b ↔ a ≤ b ∧ ∀ x ∈ cs, x ≤ b
  | [], a, b => by simp
  | c :: cs, a, b => by
    rw [List.foldl_cons, maxOf_le cs (max a c) b]
    constructor
    · rintro ⟨h1, h2⟩
      refine ⟨by omega, fun x hx => ?_⟩
      rcases List.mem_cons.mp hx with rfl | hx
      · omega
      · exact h2 x hx
    · rintro ⟨h1, h2⟩
      have := h2 c List.mem_cons_self
      exact ⟨by omega, fun x hx => h2 x (List.mem_cons_of_mem _ hx)⟩
theorem le_maxOf {cs : List Nat} {x : Nat} (h : x ∈ cs) : x ≤ maxOf cs := ((maxOf_le cs 0 _).mp (Nat.le_refl _)).2 x h
theorem maxOf_eq {cs : List Nat} {m : Nat} (h : m ∈ cs) (hm : ∀ x ∈ cs, x ≤ m) : maxOf cs = m :=
  Nat.le_antisymm ((maxOf_le cs 0 m).mpr ⟨Nat.zero_le _, hm⟩) (le_maxOf h)
theorem numb_lt {α : Type} [DecidableEq α] {ms : List α} {x : Nat} (h : x ∈ QD.numb ms) : x < (QD.seenOf ms).length := by
  obtain ⟨m, hm, rfl⟩ := List.mem_map.mp h
  exact List.idxOf_lt_length_of_mem ((QD.mem_seenOf ms m).mpr hm)
theorem numb_lt' {α : Type} [DecidableEq α] {ms : List α} {x : Nat} (h : x ∈ QD.numb ms) : x < ms.length := Nat.lt_of_lt_of_le (numb_lt h) (QD.seenOf_len ms)

/-! ### the order in which standings are met -/
def clsOf (cs : List Nat) (n : Nat) : Nat := cs.getD n 0
def visit (cs : List Nat) (met : List Nat) : Option Nat → List Nat
  | none => met
  | some n => if clsOf cs n ∈ met.map (clsOf cs) then met else met ++ [n]
def visitAll (cs : List Nat) (met : List Nat) (ws : Ways) : List Nat := ws.foldl (visit cs) met
def newWay (cs met : List Nat) (w : Option Nat) : Option Nat := w.map fun n => (met.map (clsOf cs)).idxOf (clsOf cs n)
def newStd (cs met : List Nat) (s : Std) : Std := (s.1, s.2.map (newWay cs met))
def stdOf (F : Form) (k : Nat) : Std := F.getD k ([], [])
def orderLoop (F : Form) (cs : List Nat) : Nat → List Nat → Form → Form
  | 0, _, told => told
  | f + 1, met, told => if told.length < met.length then
      orderLoop F cs f (visitAll cs met (stdOf F (met.getD told.length 0)).2) (told ++ [newStd cs (visitAll cs met (stdOf F (met.getD told.length 0)).2) (stdOf F (met.getD told.length 0))])
    else told
def inOrder (F : Form) (cs : List Nat) : Form := orderLoop F cs (F.length + 1) [0] []
theorem stdOf_get {F : Form} {k : Nat} (h : k < F.length) : F[k]? = some (stdOf F k) := by
  unfold stdOf
  rw [List.getD_eq_getElem?_getD, List.getElem?_eq_getElem h]
  rfl
theorem nodup_le : ∀ (n : Nat) (l : List Nat), l.Nodup → (∀ x ∈ l, x < n) → l.length ≤ n
  | 0, l, _, h => by
    cases l with
    | nil => exact Nat.le_refl _
    | cons x l => exact absurd (h x List.mem_cons_self) (Nat.not_lt_zero _)
  | n + 1, l, nd, h => by
    have h1 := nodup_le n (l.erase n) (nd.erase n) fun x hx => by
      have hx' := List.mem_of_mem_erase hx
      have h2 := h x hx'
      have h3 : x ≠ n := fun e => by
        rw [e] at hx
        exact nd.not_mem_erase hx
      omega
    have h4 : l.length ≤ (l.erase n).length + 1 := by
      rw [List.length_erase]
      split <;> omega
    omega
/-- what holds of the met ones -/
structure Met (F : Form) (cs met : List Nat) : Prop where
  nd : (met.map (clsOf cs)).Nodup
  lt : ∀ m ∈ met, m < F.length
theorem Met.len {F : Form} {cs met : List Nat} (h : Met F cs met) : met.length ≤ F.length :=
  nodup_le _ _ ((List.pairwise_map.mp h.nd).imp fun h e => h (congrArg _ e)) h.lt
theorem Met.visit {F : Form} {cs met : List Nat} (h : Met F cs met) {w : Option Nat} (hw : ∀ n, w = some n → n < F.length) : Met F cs (visit cs met w) := by
  cases w with
  | none => exact h
  | some n =>
    unfold QM.visit
    show Met F cs (if clsOf cs n ∈ met.map (clsOf cs) then met else met ++ [n])
    by_cases hm : clsOf cs n ∈ met.map (clsOf cs)
    · rw [if_pos hm]
      exact h
    · rw [if_neg hm]
      refine ⟨?_, fun m hm' => ?_⟩
      · rw [List.map_append, List.nodup_append]
        exact ⟨h.nd, by simp, fun a ha b hb => by rw [List.mem_singleton.mp hb]; exact fun e => hm (e ▸ ha)⟩
      · rcases List.mem_append.mp hm' with q | q
        · exact h.lt m q
        · rw [List.mem_singleton.mp q]
          exact hw n rfl
theorem visit_pre (cs met : List Nat) (w : Option Nat) : ∃ t, visit cs met w = met ++ t := by
  cases w with
  | none => exact ⟨[], by simp [visit]⟩
  | some n =>
    by_cases h : clsOf cs n ∈ met.map (clsOf cs)
    · exact ⟨[], by simp [visit, h]⟩
    · exact ⟨[n], by simp [visit, h]⟩
theorem visitAll_pre (cs : List Nat) : ∀ (ws : Ways) (met : List Nat), ∃ t, visitAll cs met ws = met ++ t
  | [], met => ⟨[], by simp [visitAll]⟩
  | w :: ws, met => by
    obtain ⟨t, e⟩ := visit_pre cs met w
    obtain ⟨t2, e2⟩ := visitAll_pre cs ws (visit cs met w)
    refine ⟨t ++ t2, ?_⟩
    show visitAll cs (visit cs met w) ws = _
    rw [e2, e, List.append_assoc]
theorem visit_has (cs met : List Nat) (n : Nat) : clsOf cs n ∈ (visit cs met (some n)).map (clsOf cs) := by
  by_cases h : clsOf cs n ∈ met.map (clsOf cs)
  · simpa [visit, h] using h
  · simp [visit, h]
theorem visitAll_has (cs : List Nat) : ∀ (ws : Ways) (met : List Nat) (n : Nat), some n ∈ ws → clsOf cs n ∈ (visitAll cs met ws).map (clsOf cs)
  | w :: ws, met, n, h => by
    rcases List.mem_cons.mp h with e | h
    · obtain ⟨t, e2⟩ := visitAll_pre cs ws (visit cs met w)
      show _ ∈ (visitAll cs (visit cs met w) ws).map _
      rw [e2, List.map_append]
      exact List.mem_append_left _ (by rw [← e]; exact visit_has cs met n)
    · exact visitAll_has cs ws (visit cs met w) n h
theorem Met.visitAll {F : Form} {cs : List Nat} : ∀ {ws : Ways} {met : List Nat}, Met F cs met → (∀ n, some n ∈ ws → n < F.length) → Met F cs (visitAll cs met ws)
  | [], _, h, _ => h
  | w :: ws, met, h, hw => Met.visitAll (ws := ws) (met := QM.visit cs met w) (h.visit fun n e => hw n (by rw [e]; exact List.mem_cons_self)) fun n hn => hw n (List.mem_cons_of_mem _ hn)

/-! ### needless ways -/
def isNeedless (F : Form) (S : List Bool) (word : Word) (t : Str) (n : Nat) : Bool := S.getD n false && decide ((stdOf F n).1 = word ++ [t])
def pruneWay (F : Form) (S : List Bool) (word : Word) (t : Str) : Option Nat → Option Nat
  | none => none
  | some n => if isNeedless F S word t n = true then none else some n
def pruneWays (tags : List Str) (F : Form) (S : List Bool) (s : Std) : Ways := (tags.zip s.2).map fun p => pruneWay F S s.1 p.1 p.2
def pruneStd (tags : List Str) (F : Form) (S : List Bool) (s : Std) : Std := (s.1, pruneWays tags F S s)
def needStep (tags : List Str) (F : Form) (st : Form × List Bool) (k : Nat) : Form × List Bool :=
  (st.1.set k (pruneStd tags F st.2 (stdOf st.1 k)), st.2.set k ((pruneWays tags F st.2 (stdOf st.1 k)).all Option.isNone))
def keyOf (F : Form) (k : Nat) : Int := -((stdOf F k).1.length : Int)
def byLen (F : Form) : List Nat := (List.range F.length).mergeSort fun i j => decide (keyOf F i ≤ keyOf F j)
def needFold (tags : List Str) (F : Form) (ks : List Nat) : Form × List Bool := ks.foldl (needStep tags F) (F, List.replicate F.length false)
def needless (tags : List Str) (F : Form) : Form := (needFold tags F (byLen F)).1
def least (tags : List Str) (F : Form) : Form := inOrder (needless tags F) (alike (needless tags F))

theorem pruneWays_len {tags : List Str} {F : Form} {S : List Bool} {s : Std} (h : s.2.length = tags.length) : (pruneWays tags F S s).length = tags.length := by
  unfold pruneWays
  rw [List.length_map, List.length_zip, h, Nat.min_self]
theorem pruneWays_get {tags : List Str} {F : Form} {S : List Bool} {s : Std} {k : Nat} {t : Str} {w : Option Nat} (ht : tags[k]? = some t) (hw : s.2[k]? = some w) : (pruneWays tags F S s)[k]? = some (pruneWay F S s.1 t w) := by
  have ez : (tags.zip s.2)[k]? = some (t, w) := by
    rw [List.getElem?_zip_eq_some]
    exact ⟨ht, hw⟩
  unfold pruneWays
  rw [List.getElem?_map, ez]
  rfl
theorem pruneWay_some {F : Form} {S : List Bool} {word : Word} {t : Str} {w : Option Nat} {n : Nat} (h : pruneWay F S word t w = some n) : w = some n := by
  cases w with
  | none => cases h
  | some m =>
    have h : (if isNeedless F S word t m = true then none else some m) = some n := h
    by_cases e : isNeedless F S word t m = true
    · rw [if_pos e] at h
      cases h
    · rw [if_neg e] at h
      exact h
theorem pruneWays_some {tags : List Str} {F : Form} {S : List Bool} {s : Std} {n : Nat} (h : some n ∈ pruneWays tags F S s) : some n ∈ s.2 := by
  obtain ⟨p, hp, e⟩ := List.mem_map.mp h
  rw [← pruneWay_some e]
  exact (List.of_mem_zip hp).2
/-- what stays through the steps -/
structure Pruned (tags : List Str) (F : Form) (st : Form × List Bool) : Prop where
  len : st.1.length = F.length
  lenS : st.2.length = F.length
  word : ∀ k s, st.1[k]? = some s → s.1 = (stdOf F k).1 ∧ s.2.length = (stdOf F k).2.length ∧ ∀ n, some n ∈ s.2 → some n ∈ (stdOf F k).2
theorem Pruned.start (tags : List Str) (F : Form) : Pruned tags F (F, List.replicate F.length false) := by
  refine ⟨rfl, List.length_replicate, fun k s h => ?_⟩
  have hk : k < F.length := (List.getElem?_eq_some_iff.mp h).1
  have h : F[k]? = some s := h
  rw [stdOf_get hk] at h
  cases h
  exact ⟨rfl, rfl, fun n h => h⟩
theorem Pruned.step {tags : List Str} {F : Form} {st : Form × List Bool} (p : Pruned tags F st) (g : Good tags F) {k : Nat} (hk : k < F.length) : Pruned tags F (needStep tags F st k) := by
  have h1 : st.1[k]? = some (stdOf st.1 k) := stdOf_get (by rw [p.len]; exact hk)
  obtain ⟨w1, w2, w3⟩ := p.word k _ h1
  have gl : (stdOf F k).2.length = tags.length := g.ways (stdOf_get hk)
  refine ⟨by show (st.1.set k _).length = _; rw [List.length_set, p.len], by show (st.2.set k _).length = _; rw [List.length_set, p.lenS], fun j s hj => ?_⟩
  have hj : (st.1.set k (pruneStd tags F st.2 (stdOf st.1 k)))[j]? = some s := hj
  by_cases e : k = j
  · subst e
    rw [List.getElem?_set_self (by rw [p.len]; exact hk)] at hj
    cases hj
    refine ⟨w1, ?_, fun n hn => w3 n (pruneWays_some hn)⟩
    show (pruneWays tags F st.2 (stdOf st.1 k)).length = _
    rw [pruneWays_len (by rw [w2, gl]), gl]
  · rw [List.getElem?_set_ne e] at hj
    exact p.word j s hj
theorem Pruned.fold {tags : List Str} {F : Form} (g : Good tags F) : ∀ (ks : List Nat) (st : Form × List Bool), Pruned tags F st → (∀ k ∈ ks, k < F.length) → Pruned tags F (ks.foldl (needStep tags F) st)
  | [], _, p, _ => p
  | k :: ks, st, p, h => Pruned.fold g ks (needStep tags F st k) (p.step g (h k List.mem_cons_self)) fun j hj => h j (List.mem_cons_of_mem _ hj)
theorem byLen_lt {F : Form} {k : Nat} (h : k ∈ byLen F) : k < F.length := by
  unfold byLen at h
  rw [List.mem_mergeSort] at h
  exact List.mem_range.mp h
theorem byLen_len (F : Form) : (byLen F).length = F.length := by
  unfold byLen
  rw [List.length_mergeSort, List.length_range]
theorem mix_get {α : Type} {P Q : List α} {j : Nat} (h : P.length = Q.length) (hj : j < Q.length) : (P.take j ++ Q.drop j)[j]? = Q[j]? := by
  rw [List.getElem?_append_right (by rw [List.length_take]; omega), List.length_take, Nat.min_eq_left (by omega), Nat.sub_self, List.getElem?_drop, Nat.add_zero]
theorem mix_set {α : Type} {P Q : List α} {j : Nat} {x : α} (h : P.length = Q.length) (hj : P[j]? = some x) : (P.take j ++ Q.drop j).set j x = P.take (j + 1) ++ Q.drop (j + 1) := by
  have hj' : j < P.length := (List.getElem?_eq_some_iff.mp hj).1
  rw [List.set_append_right _ _ (by rw [List.length_take]; omega), List.length_take, Nat.min_eq_left (by omega), Nat.sub_self, List.take_succ, hj, List.drop_eq_getElem_cons (by omega : j < Q.length), List.set_cons_zero]
  simp
theorem mix_same {α : Type} {P Q : List α} {j : Nat} {x : α} (h : P.length = Q.length) (hj : P[j]? = some x) (hq : Q[j]? = some x) : P.take j ++ Q.drop j = P.take (j + 1) ++ Q.drop (j + 1) := by
  rw [← mix_set h hj]
  have hl : (P.take j ++ Q.drop j)[j]? = some x := by
    rw [mix_get h (List.getElem?_eq_some_iff.mp hq).1]
    exact hq
  refine List.ext_getElem? fun i => ?_
  by_cases e : j = i
  · subst e
    rw [List.getElem?_set_self (List.getElem?_eq_some_iff.mp hl).1, hl]
  · rw [List.getElem?_set_ne e]
end QM
end

section
set_option Elab.async false
set_option linter.all false
set_option maxRecDepth 100000
/-! Qown: len and == by the class's own methods, with any answer. -/
namespace QO
open PySem PySem.Spec PyProof.Rows L2
section
variable {X : Cx} {CX : CXT} {k : Nat} {f C : Addr} {fd : FuncData} {ps : List Str} {sp : Sp} {E : XK}
theorem run_in {A : Around} {pins : List (Addr × Obj)} {σ : L2.St} {H : Hp} {s : Shared} {Q : VK} {us : List Value} {vs : List V} (sb : Sub X k A) (F : FnOk X.prog X.w X.K X.mg X.base CX k f fd ps sp) (hb : Binds X.K fd ps []) (hx : Passes CX X E)
    (I : Inv X pins σ H s) (r : Vals vs us) (h : sp vs H Q E) : wpAny (model X.prog X.w) A (call (.ref f) us) (EP X pins σ Q) X.xe s := by
  have hl : us.length = ps.length := by rw [← r.length]; exact F.len _ _ _ _ h
  have e0 : Env0 X.prog X.w X.K X.mg X.base A X.stack s H := by
    have e := I.env0
    exact ⟨by rw [sb.fr]; exact e.frames, e.mod, e.bs, e.bsz, e.funs, e.frf, e.hok, e.bare⟩
  refine wpAny_call (codeAny_mono (F.run A X.stack s H ⟨us, []⟩ us vs Q E sb.room e0 (by
    have := hb s us I.kIn (by simpa using hl)
    simpa using this) r h) fun r s' hq => ?_)
  cases r with
  | error e => exact hx pins σ H s e s' I hq
  | ok fl =>
    cases fl with
    | ret u => exact I.after hq
    | next => exact False.elim hq
    | brk => exact False.elim hq
    | cont => exact False.elim hq
/-- len(x) by an own __len__ -/
def rLenO (C : Addr) (sp : Sp) (E : XK) : List V → Hp → VK → Prop := fun xs H Q => ∃ a dx fs, xs = [.ref a] ∧ H a = some (.ins C dx fs) ∧ sp [.ref a] H (fun v H' => ∃ n : Nat, v = .int (n : Int) ∧ n < sizeLine ∧ Q v H') E
theorem call_lenO (F : FnOk X.prog X.w X.K X.mg X.base CX k f fd ps sp) (hm : Meth X.K C "__len__" f) (hr : Room (k + 1) X.A) (hb : Binds X.K fd ps []) (hx : Passes CX X E) : CallR X (.builtin "len") (rLenO C sp E) := by
  intro pins s σ H xs us Q I r h
  obtain ⟨a, dx, fs, rfl, ha, h⟩ := h
  obtain ⟨u, rfl, ru⟩ := vals1 r
  cases ru
  obtain ⟨mA, J, _⟩ := ins_get I.hok ha
  obtain ⟨od, J, _⟩ := J.look
  obtain ⟨m, hF⟩ := I.fr
  refine PySem.W.len_K hF I.ok.mod.kin J hm.at_ hm.fn ?_
  refine wpAny_mono (run_in (A := X.A.in1) (vs := [.ref a]) ⟨hr.in1, rfl⟩ F hb hx I (.cons rfl .nil) h) (fun v s' q => ?_) fun _ _ x => x
  obtain ⟨v', H', I', rv, n, rfl, hn, q⟩ := q
  obtain ⟨t, rfl⟩ := (show ∃ t, v = Value.int (n : Int) t from rv)
  have hs : sizeLine = 16777216 := sizeLine_eq
  exact ⟨⟨by omega, by omega⟩, .int (n : Int), H', I'.tok _, ⟨_, rfl⟩, q⟩
/-- x == y by an own __eq__ -/
def rEqO (K : PySem.W.Frag) (C : Addr) (sp : Sp) (E : XK) : R2 := fun x y H Q => ∃ a dx fs t, x = .ref a ∧ H a = some (.ins C dx fs) ∧ TyOf K H y t ∧ PySem.W.notFirst K C t = true ∧ sp [.ref a, y] H (fun v H' => ∃ b : Bool, v = .bl b ∧ Q v H') E
theorem looks_ty {pins : List (Addr × Obj)} {σ : L2.St} {H : Hp} {s : Shared} {x : V} {u t : Value} (I : Inv X pins σ H s) (rx : RelV x u) (ty : TyOf X.K H x t) : PySem.W.Looks (model X.prog X.w) s.heap (typeOf u) t := by
  have ob : ∀ {a : Addr} {o : Obj}, s.heap.get? a = some o → PySem.W.Looks (model X.prog X.w) s.heap (typeOf (.ref a)) o.cls := fun e => PySem.W.Looks.ld e |>.andThen (PySem.W.Looks.now)
  cases ty with
  | non => cases (show u = Value.none from rx); exact PySem.W.Looks.of_pure rfl
  | bl y => cases (show u = Value.bool y from rx); exact PySem.W.Looks.of_pure rfl
  | int i => obtain ⟨t, q⟩ := (show ∃ t, u = Value.int i t from rx); cases q; exact PySem.W.Looks.of_pure rfl
  | str y => obtain ⟨t, q⟩ := (show ∃ t, u = Value.str y t from rx); cases q; exact PySem.W.Looks.of_pure rfl
  | flt y => obtain ⟨t, q⟩ := (show ∃ t, u = Value.float y t from rx); cases q; exact PySem.W.Looks.of_pure rfl
  | @lst a xs ea =>
    cases (show u = Value.ref a from rx)
    obtain ⟨_, _, n, _, h1⟩ := (show ObjOk X.prog X.w H s.heap a (.lst xs) from I.hok a _ ea)
    exact ob h1
  | @frz a ob' xs ea =>
    cases (show u = Value.ref a from rx)
    obtain ⟨_, _, _, n, _, h1⟩ := (show ObjOk X.prog X.w H s.heap a (.frz ob' (.lst xs)) from I.hok a _ ea)
    exact ob h1
  | @tup a xs ea =>
    cases (show u = Value.ref a from rx)
    obtain ⟨_, _, _, o, h1, h2, _⟩ := (show ObjOk X.prog X.w H s.heap a (.tup xs) from I.hok a _ ea)
    rw [← h2]
    exact ob h1
  | @dK a kvs ea =>
    cases (show u = Value.ref a from rx)
    obtain ⟨_, _, vs, _, o, es, ep, h1, h2, _⟩ := (show ObjOk X.prog X.w H s.heap a (.dK kvs) from I.hok a _ ea)
    rw [← h2.1]
    exact ob h1
  | @dT a kvs ea =>
    cases (show u = Value.ref a from rx)
    obtain ⟨_, _, xs, _, o, es, ep, h1, h2, _⟩ := (show ObjOk X.prog X.w H s.heap a (.dT kvs) from I.hok a _ ea)
    rw [← h2.1]
    exact ob h1
  | @ins a C dx fs ea cl ha hn htk hm =>
    cases (show u = Value.ref a from rx)
    obtain ⟨mA, O, _⟩ := ins_get I.hok ea
    obtain ⟨od, J, _⟩ := O.look
    exact J.type
theorem op_eqO (F : FnOk X.prog X.w X.K X.mg X.base CX k f fd ps sp) (hm : Meth X.K C "__eq__" f) (hr : Room k X.A) (hb : Binds X.K fd ps []) (hx : Passes CX X E) : OpR X (compareOp .Eq) (rEqO X.K C sp E) := by
  intro pins s σ H x y v u Q I rx ry h
  obtain ⟨a, dx, fs, t, rfl, ha, ht, hn, h⟩ := h
  cases rx
  obtain ⟨mA, J, _⟩ := ins_get I.hok ha
  obtain ⟨od, J, _⟩ := J.look
  obtain ⟨m, hF⟩ := I.fr
  show wpAny (model X.prog X.w) X.A (richCompare .Eq _ u) (EP X pins σ Q) X.xe s
  refine PySem.W.cmp_K (op := .Eq) hr.units0 hF I.ok.mod.kin J (looks_ty I ry ht) hn hm.at_ hm.fn ?_
  refine wpAny_mono (run_in (A := X.A) (vs := [.ref a, y]) ⟨hr, rfl⟩ F hb hx I (.cons rfl (.cons ry .nil)) h) (fun v s' q => ?_) fun _ _ x => x
  obtain ⟨v', H', I', rv, b, rfl, q⟩ := q
  cases rv
  exact ⟨.bl b, H', I', rfl, q⟩
/-- x in y by an own __contains__ -/
def rInO (C : Addr) (sp : Sp) (E : XK) (neg : Bool) : R2 := fun x y H Q => ∃ a dx fs, y = .ref a ∧ H a = some (.ins C dx fs) ∧ sp [.ref a, x] H (fun v H' => ∃ b : Bool, v = .bl b ∧ Q (.bl (if neg then !b else b)) H') E
theorem op_inO (F : FnOk X.prog X.w X.K X.mg X.base CX k f fd ps sp) (hm : Meth X.K C "__contains__" f) (hr : Room k X.A) (hb : Binds X.K fd ps []) (hx : Passes CX X E) : OpR X (compareOp .In) (rInO C sp E false) := by
  intro pins s σ H x y v u Q I rx ry h
  obtain ⟨a, dx, fs, rfl, ha, h⟩ := h
  cases ry
  obtain ⟨mA, J, _⟩ := ins_get I.hok ha
  obtain ⟨od, J, _⟩ := J.look
  obtain ⟨m, hF⟩ := I.fr
  refine PySem.W.in_K hF I.ok.mod.kin J hm.at_ hm.fn ?_
  refine wpAny_mono (run_in (A := X.A) (vs := [.ref a, x]) ⟨hr, rfl⟩ F hb hx I (.cons rfl (.cons rx .nil)) h) (fun v' s' q => ?_) fun _ _ x => x
  obtain ⟨z, H', I', rv, b, rfl, q⟩ := q
  cases rv
  exact wpAny_truthy_bool ⟨.bl b, H', I', rfl, q⟩
theorem op_notInO (F : FnOk X.prog X.w X.K X.mg X.base CX k f fd ps sp) (hm : Meth X.K C "__contains__" f) (hr : Room k X.A) (hb : Binds X.K fd ps []) (hx : Passes CX X E) : OpR X (compareOp .NotIn) (rInO C sp E true) := by
  intro pins s σ H x y v u Q I rx ry h
  obtain ⟨a, dx, fs, rfl, ha, h⟩ := h
  cases ry
  obtain ⟨mA, J, _⟩ := ins_get I.hok ha
  obtain ⟨od, J, _⟩ := J.look
  obtain ⟨m, hF⟩ := I.fr
  refine PySem.W.notIn_K hF I.ok.mod.kin J hm.at_ hm.fn ?_
  refine wpAny_mono (run_in (A := X.A) (vs := [.ref a, x]) ⟨hr, rfl⟩ F hb hx I (.cons rfl (.cons rx .nil)) h) (fun v' s' q => ?_) fun _ _ x => x
  obtain ⟨z, H', I', rv, b, rfl, q⟩ := q
  cases rv
  exact wpAny_truthy_bool ⟨.bl (!b), H', I', rfl, q⟩
end
/-- text * 0, text * 1 -/
theorem op_mul_str {X : Cx} : OpR X (binaryOp .Mult) (fun x y H Q => ∃ z, x = .str z ∧ ((y = .int 0 ∧ Q (.str Str.empty) H) ∨ (y = .int 1 ∧ Q (.str z) H))) := by
  intro pins s σ H x y v u Q I rx ry h
  obtain ⟨z, rfl, h⟩ := h
  obtain ⟨t, rfl⟩ := (show ∃ t, v = Value.str z t from rx)
  rcases h with ⟨rfl, q⟩ | ⟨rfl, q⟩
  · obtain ⟨t', rfl⟩ := (show ∃ t, u = Value.int 0 t from ry)
    exact PySem.P.mul_str_none (by decide) (by decide) ⟨.str Str.empty, H, I.tok _, ⟨_, rfl⟩, q⟩
  · obtain ⟨t', rfl⟩ := (show ∃ t, u = Value.int 1 t from ry)
    refine PySem.P.mul_str (by decide) (fun _ e => by simp at e) (fun _ e => by simp at e) ?_
    rw [if_neg (by decide), if_pos (by simp)]
    exact ⟨.str z, H, I, ⟨_, rfl⟩, q⟩
/-- xs.count(y), flat things -/
def rCount (K : PySem.W.Frag) : V → List V → Hp → VK → Prop := fun x xs H Q => ∃ (a : Addr) (ys : List V) (y : V), x = .ref a ∧ xs = [y] ∧ SqL K H a ys ∧ flatV y = true ∧ ys.all flatV = true ∧ Q (.int ((ys.countP fun z => eqV z y : Nat) : Int)) H
theorem count_eqU {y : V} : ∀ {ys : List V} {us : List Value}, Vals ys us → ys.all flatV = true → us.countP (eqU y) = ys.countP fun z => eqV z y
  | _, _, .nil, _ => rfl
  | z :: ys, u :: us, .cons r t, h => by
    rw [List.all_cons, Bool.and_eq_true] at h
    rw [List.countP_cons, List.countP_cons, count_eqU t h.2, eqU_of r h.1]
theorem mt_countL {X : Cx} : MtR X "list.count" (rCount X.K) := by
  intro pins s σ H x xs v us Q I rx rxs h
  obtain ⟨a, ys, y, rfl, rfl, hs, fy, fys, q⟩ := h
  cases rx
  cases rxs with
  | cons ry rt =>
    rename_i uy ut
    cases rt
    obtain ⟨its, rv, ⟨⟨cls, dd, data, sl⟩, n, ho, hc, hdn, hd⟩, hlen⟩ := I.list hs
    simp only at hc hd
    subst hc hd
    refine call_meets PySem.F.slot_list_count ⟨_, ho, rfl⟩ PySem.F.entry_list_count (PySem.F.args_list_count_2 _ _)
      (SeqAt.list_countAt a its.toArray n dd sl uy (eqU y)) ⟨ho, fun u' hu' => mem_eqAt ry fy rv fys u' (by simpa using hu'), ?_⟩
    refine ⟨.int ((ys.countP fun z => eqV z y : Nat) : Int), H, I.tok _, ⟨s.toks, ?_⟩, q⟩
    show Value.int ((its.toArray.toList.countP (eqU y) : Nat) : Int) s.toks = _
    rw [show its.toArray.toList.countP (eqU y) = ys.countP fun z => eqV z y from count_eqU rv fys]
theorem mt_countK {X : Cx} (K : PySem.W.Frag) (h : X.K = K := by rfl) : MtR X "list.count" (rCount K) := h ▸ mt_countL
/-- what isinstance and == ask of an own class -/
structure OwnC (K : PySem.W.Frag) (C : Addr) : Prop where
  ha : PySem.W.findIn K (.ref C) "__class__" = some (some (.builtin "object.__class__"))
  hn : PySem.W.specialIn K (.builtin "object.__class__") "__get__" = some (some (.builtin "getset_descriptor.__get__"))
  htk : PySem.W.takesIn K (.builtin "object.__class__") = some true
  hm : PySem.W.mroIn K C (.type "object") = some true
  kL : PySem.W.kitOne K (.type "list") (.ref C) = some false
  kT : PySem.W.kitOne K (.type "tuple") (.ref C) = some false
  kS : PySem.W.kitOne K (.type "str") (.ref C) = some false
  kI : PySem.W.kitOne K (.type "int") (.ref C) = some false
  kB : PySem.W.kitOne K (.type "bool") (.ref C) = some false
  kN : PySem.W.kitOne K (.type "NoneType") (.ref C) = some false
  kD : PySem.W.kitOne K (.type "dict") (.ref C) = some false
  cL : PySem.W.kitOne K (.ref C) (.type "list") = some false
  cT : PySem.W.kitOne K (.ref C) (.type "tuple") = some false
  cS : PySem.W.kitOne K (.ref C) (.type "str") = some false
  cI : PySem.W.kitOne K (.ref C) (.type "int") = some false
  cB : PySem.W.kitOne K (.ref C) (.type "bool") = some false
  nL : PySem.W.notFirst K C (.type "list") = true
  nT : PySem.W.notFirst K C (.type "tuple") = true
  nS : PySem.W.notFirst K C (.type "str") = true
  nI : PySem.W.notFirst K C (.type "int") = true
  nB : PySem.W.notFirst K C (.type "bool") = true
  nN : PySem.W.notFirst K C (.type "NoneType") = true
  nD : PySem.W.notFirst K C (.type "dict") = true
theorem OwnC.self {K : PySem.W.Frag} {C : Addr} : PySem.W.kitOne K (.ref C) (.ref C) = some true := if_pos (by simp)
theorem OwnC.same {K : PySem.W.Frag} {C : Addr} : PySem.W.notFirst K C (.ref C) = true := by simp [PySem.W.notFirst]
theorem OwnC.ty {K : PySem.W.Frag} {C a dx : Addr} {H : Hp} {fs : List (Str × V)} (o : OwnC K C) (c : Cls K C) (e : H a = some (.ins C dx fs)) : TyOf K H (.ref a) (.ref C) := .ins e c o.ha o.hn o.htk o.hm
end QO
end

section
set_option Elab.async false
set_option linter.all false
set_option maxRecDepth 100000
/-! Qdata: == and != of lists within lists and tuples, by what they hold. -/
namespace QB
open PySem PySem.Spec PyProof.Rows L2
structure Enc {α : Type} [DecidableEq α] (D : α → PyData) (ok : α → Prop) (n : Nat) : Prop where
  eq : ∀ x y, PyData.eqv (D x) (D y) = decide (x = y)
  lay : ∀ x, ok x → PyData.canLay0 (D x) = true
  dep : ∀ x, PyData.depth (D x) ≤ n
section
variable {α β : Type} [DecidableEq α] [DecidableEq β] {D : α → PyData} {E : β → PyData} {ok : α → Prop} {ok2 : β → Prop} {n m : Nat} {K : PySem.W.Frag} {H : Hp}
theorem Enc.eqAll (e : Enc D ok n) : ∀ l k : List α, PyData.eqvAll (l.map D) (k.map D) = decide (l = k)
  | [], [] => by simp [PyData.eqvAll]
  | [], _ :: _ => by simp [PyData.eqvAll]
  | _ :: _, [] => by simp [PyData.eqvAll]
  | x :: l, y :: k => by
    rw [List.map_cons, List.map_cons, PyData.eqvAll, e.eq, e.eqAll l k]
    by_cases h : x = y
    · subst h
      by_cases h2 : l = k <;> simp [h2]
    · simp [h]
theorem Enc.layAll (e : Enc D ok n) : ∀ l : List α, (∀ x ∈ l, ok x) → PyData.canLayAll0 (l.map D) = true
  | [], _ => by simp [PyData.canLayAll0]
  | x :: l, h => by
    rw [List.map_cons, PyData.canLayAll0, e.lay x (h x List.mem_cons_self), e.layAll l fun y hy => h y (List.mem_cons_of_mem _ hy)]
    rfl
theorem Enc.depAll (e : Enc D ok n) : ∀ l : List α, PyData.depthAll (l.map D) ≤ n
  | [] => by simp [PyData.depthAll]
  | x :: l => by
    rw [List.map_cons, PyData.depthAll]
    exact Nat.max_le.mpr ⟨e.dep x, e.depAll l⟩
theorem Enc.list (e : Enc D ok n) : Enc (fun l : List α => PyData.list (l.map D)) (fun l => ∀ x ∈ l, ok x) (n + 1) :=
  ⟨fun l k => by rw [PyData.eqv]; exact e.eqAll l k, fun l h => by rw [PyData.canLay0]; exact e.layAll l h, fun l => by rw [PyData.depth]; exact Nat.succ_le_succ (e.depAll l)⟩
theorem Enc.mono (e : Enc D ok n) (h : n ≤ m) : Enc D ok m := ⟨e.eq, e.lay, fun x => Nat.le_trans (e.dep x) h⟩
theorem Enc.pair (e : Enc D ok n) (f : Enc E ok2 n) : Enc (fun p : α × β => PyData.tuple [D p.1, E p.2]) (fun p => ok p.1 ∧ ok2 p.2) (n + 1) := by
  refine ⟨fun p q => ?_, fun p h => ?_, fun p => ?_⟩
  · rw [PyData.eqv, PyData.eqvAll, PyData.eqvAll, PyData.eqvAll, e.eq, f.eq, Bool.and_true]
    obtain ⟨p1, p2⟩ := p
    obtain ⟨q1, q2⟩ := q
    by_cases h1 : p1 = q1 <;> by_cases h2 : p2 = q2 <;> simp [h1, h2]
  · rw [PyData.canLay0, PyData.canLayAll0, PyData.canLayAll0, PyData.canLayAll0, e.lay _ h.1, f.lay _ h.2]
    rfl
  · rw [PyData.depth, PyData.depthAll, PyData.depthAll, PyData.depthAll]
    have := e.dep p.1
    have := f.dep p.2
    omega
theorem Enc.two (e : Enc D ok n) (f : Enc E ok2 n) : Enc (fun p : α × β => PyData.list [D p.1, E p.2]) (fun p => ok p.1 ∧ ok2 p.2) (n + 1) := by
  refine ⟨fun p q => ?_, fun p h => ?_, fun p => ?_⟩
  · rw [PyData.eqv, PyData.eqvAll, PyData.eqvAll, PyData.eqvAll, e.eq, f.eq, Bool.and_true]
    obtain ⟨p1, p2⟩ := p
    obtain ⟨q1, q2⟩ := q
    by_cases h1 : p1 = q1 <;> by_cases h2 : p2 = q2 <;> simp [h1, h2]
  · rw [PyData.canLay0, PyData.canLayAll0, PyData.canLayAll0, PyData.canLayAll0, e.lay _ h.1, f.lay _ h.2]
    rfl
  · rw [PyData.depth, PyData.depthAll, PyData.depthAll, PyData.depthAll]
    have := e.dep p.1
    have := f.dep p.2
    omega
theorem enc_str : Enc PyData.str (fun t => PyData.strOk t = true) 0 := ⟨fun x y => by
  rw [PyData.eqv]
  by_cases h : x = y <;> simp [h], fun x h => by rw [PyData.canLay0]; exact h, fun x => by simp [PyData.depth]⟩
theorem enc_int : Enc PyData.int (fun _ => True) 0 := ⟨fun x y => by
  rw [PyData.eqv]
  by_cases h : x = y <;> simp [h], fun x h => by rw [PyData.canLay0], fun x => by simp [PyData.depth]⟩
theorem enc_bool : Enc PyData.bool (fun _ => True) 0 := ⟨fun x y => by
  rw [PyData.eqv]
  by_cases h : x = y <;> simp [h], fun x h => by rw [PyData.canLay0], fun x => by simp [PyData.depth]⟩
def dW : Option Nat → PyData
  | none => .none
  | some n => .int (n : Int)
theorem enc_way : Enc dW (fun _ => True) 0 := by
  refine ⟨fun x y => ?_, fun x _ => ?_, fun x => ?_⟩
  · cases x <;> cases y <;> simp [dW, PyData.eqv]
    rename_i a b
    by_cases h : a = b
    · simp [h]
    · have : ¬ (a : Int) = (b : Int) := by omega
      simp [h, this]
  · cases x <;> simp [dW, PyData.canLay0]
  · cases x <;> simp [dW, PyData.depth]
def dWord (w : Word) : PyData := .list (w.map .str)
def dWays (w : Ways) : PyData := .list (w.map dW)
def dStd (s : Std) : PyData := .tuple [dWord s.1, dWays s.2]
def dForm (F : Form) : PyData := .list (F.map dStd)
def OkWord (w : Word) : Prop := ∀ t ∈ w, PyData.strOk t = true
def OkForm (F : Form) : Prop := ∀ s ∈ F, OkWord s.1
theorem enc_word : Enc dWord OkWord 1 := enc_str.list
theorem enc_ways : Enc dWays (fun w => ∀ x ∈ w, True) 1 := enc_way.list
theorem enc_std : Enc dStd (fun s => OkWord s.1 ∧ ∀ x ∈ s.2, True) 2 := enc_word.pair enc_ways
theorem enc_form : Enc dForm (fun F => ∀ s ∈ F, OkWord s.1 ∧ ∀ x ∈ s.2, True) 3 := enc_std.list
theorem OkForm.enc {F : Form} (h : OkForm F) : ∀ s ∈ F, OkWord s.1 ∧ ∀ x ∈ s.2, True := fun s hs => ⟨h s hs, fun _ _ => trivial⟩
theorem dpAll_map (f : α → V) (g : α → PyData) (h : ∀ x, Dp K H (f x) (g x)) : ∀ l : List α, DpAll K H (l.map f) (l.map g)
  | [] => .nil
  | x :: l => .cons (h x) (dpAll_map f g h l)
theorem dp_wd {a : Addr} {w : Word} (h : WordAt H a w) : Dp K H (.ref a) (dWord w) := .lst (SqL.of h) (dpAll_map _ _ (fun x => .str x) w)
theorem dp_way : ∀ x : Option Nat, Dp K H (vW x) (dW x)
  | none => .non
  | some n => .int (n : Int)
theorem dp_ways {a : Addr} {w : Ways} (h : WaysAt H a w) : Dp K H (.ref a) (dWays w) := .lst (SqL.of h) (dpAll_map _ _ dp_way w)
theorem dp_std {a : Addr} {s : Std} (h : StdAt H a s) : Dp K H (.ref a) (dStd s) := by
  obtain ⟨x, y, h1, h2, h3⟩ := h
  exact .tup (SqT.of h1) (.cons (dp_wd h2) (.cons (dp_ways h3) .nil))
theorem dp_form {a : Addr} {F : Form} (h : FormAt H a F) : Dp K H (.ref a) (dForm F) := by
  obtain ⟨ts, h1, h2⟩ := h
  refine .lst (SqL.of h1) ?_
  clear h1
  induction h2 with
  | nil => exact .nil
  | cons h _ ih => exact .cons (dp_std h) ih
theorem shaped_of (e : Enc D ok n) (hn : n ≤ 64) {x : α} (h : ok x) : SeqAt.shaped (D x) = true := by
  unfold SeqAt.shaped
  rw [Bool.and_eq_true]
  exact ⟨e.lay x h, decide_eq_true (Nat.le_trans (e.dep x) hn)⟩
theorem eq_enc (e : Enc D ok n) (hn : n ≤ 64) {u v : V} {x y : α} {Q : VK} (hx : Dp K H u (D x)) (hy : Dp K H v (D y)) (ox : ok x) (oy : ok y) (q : Q (.bl (decide (x = y))) H) : rEqD K u v H Q :=
  ⟨_, _, hx, hy, shaped_of e hn ox, shaped_of e hn oy, by rw [e.eq]; exact q⟩
theorem ne_enc (e : Enc D ok n) (hn : n ≤ 64) {u v : V} {x y : α} {Q : VK} (hx : Dp K H u (D x)) (hy : Dp K H v (D y)) (ox : ok x) (oy : ok y) (q : Q (.bl (!decide (x = y))) H) : rNeD K u v H Q :=
  ⟨_, _, hx, hy, shaped_of e hn ox, shaped_of e hn oy, by rw [e.eq]; exact q⟩
theorem eq_wd {a b : Addr} {v w : Word} {Q : VK} (hv : WordAt H a v) (hw : WordAt H b w) (ov : OkWord v) (ow : OkWord w) (q : Q (.bl (decide (v = w))) H) : rEqD K (.ref a) (.ref b) H Q := eq_enc enc_word (by decide) (dp_wd hv) (dp_wd hw) ov ow q
theorem ne_wd {a b : Addr} {v w : Word} {Q : VK} (hv : WordAt H a v) (hw : WordAt H b w) (ov : OkWord v) (ow : OkWord w) (q : Q (.bl (!decide (v = w))) H) : rNeD K (.ref a) (.ref b) H Q := ne_enc enc_word (by decide) (dp_wd hv) (dp_wd hw) ov ow q
theorem eq_form {a b : Addr} {F G : Form} {Q : VK} (hv : FormAt H a F) (hw : FormAt H b G) (ov : OkForm F) (ow : OkForm G) (q : Q (.bl (decide (F = G))) H) : rEqD K (.ref a) (.ref b) H Q := eq_enc enc_form (by decide) (dp_form hv) (dp_form hw) ov.enc ow.enc q
theorem ne_form {a b : Addr} {F G : Form} {Q : VK} (hv : FormAt H a F) (hw : FormAt H b G) (ov : OkForm F) (ow : OkForm G) (q : Q (.bl (!decide (F = G))) H) : rNeD K (.ref a) (.ref b) H Q := ne_enc enc_form (by decide) (dp_form hv) (dp_form hw) ov.enc ow.enc q
end
end QB
end

section
set_option Elab.async false
set_option linter.all false
set_option maxRecDepth 100000
/-! Qmore: rules with the written part named, for turned lists and the truth of a list. -/
namespace QN
open PySem PySem.Spec PyProof.Rows L2
section
variable {X : Cx} (K : PySem.W.Frag)
theorem pe_turn {e : Expr} {te : TE} {k : Nat} {p1 p2 p3 pos : Pos} (he : PE X e te) (h : X.K = K := by rfl) : PE X (.Subscript e (.Slice none none (some (.UnaryOp .USub (.Constant (.int 1) k p1) p2)) p3) pos) (tRevL K te) := h ▸ pe_revL he
def tTru (K : PySem.W.Frag) (ta : TE) : TT := fun σ H Q => ta σ H fun x H' => ∃ k, TruV K x H' k ∧ Q k H'
theorem pt_tru {a : Expr} {ta : TE} (ha : PE X a ta) (h : X.K = K := by rfl) (he : ∀ whole, isTrue a X.env whole = (do let v ← whole; standAt a.pos; holding [v] (truthy v)) := by intro _; rfl) : PT X a (tTru K ta) := h ▸ pt_truth ha he
theorem sl_tupK (h : X.K = K := by rfl) : SlR X (rSlT K) := h ▸ sl_tup
end
end QN
namespace QB
open PySem PySem.Spec PyProof.Rows L2
theorem enc_nat : Enc (fun n : Nat => PyData.int (n : Int)) (fun _ => True) 0 := ⟨fun x y => by
  have e := enc_int.eq (x : Int) (y : Int)
  rw [e]
  by_cases h : x = y
  · subst h
    simp
  · rw [decide_eq_false h, decide_eq_false (by omega)], fun x _ => enc_int.lay (x : Int) trivial, fun x => enc_int.dep (x : Int)⟩
def dNats (row : List Nat) : PyData := .list (row.map fun n : Nat => PyData.int (n : Int))
theorem enc_nats : Enc dNats (fun l => ∀ x ∈ l, True) 1 := enc_nat.list
theorem dp_nats {K : PySem.W.Frag} {H : Hp} {a : Addr} {row : List Nat} (h : H a = some (.lst (row.map fun (n : Nat) => V.int (n : Int)))) : Dp K H (.ref a) (dNats row) := .lst (SqL.of h) (dpAll_map _ _ (fun x => .int _) row)
end QB
end

section
set_option Elab.async false
set_option linter.all false
set_option maxRecDepth 100000
/-! Qtext: texts by their signs. -/
namespace QT
open PySem PySem.Spec PyProof.Rows L2 TL
theorem tl_cutL (z : Str) (k : Nat) : tl (cutS z none (some (k : Int))) = (tl z).take k := by
  unfold cutS
  rw [HT.sIx_nat, HT.sIx_none, List.drop_zero, Nat.sub_zero, tl_mk]
  show _ = z.cps.toList.take k
  have e : z.length = z.cps.toList.length := len_tl z
  by_cases h : k ≤ z.length
  · rw [Nat.min_eq_left h]
  · rw [Nat.min_eq_right (by omega), List.take_of_length_le (by omega), List.take_of_length_le (by omega)]
theorem tl_cutR (z : Str) (k : Nat) : tl (cutS z (some (k : Int)) none) = (tl z).drop k := by
  unfold cutS
  rw [HT.sIx_nat, HT.sIx_none, tl_mk]
  show _ = z.cps.toList.drop k
  have e : z.length = z.cps.toList.length := len_tl z
  by_cases h : k ≤ z.length
  · rw [Nat.min_eq_left h, List.take_of_length_le (by rw [List.length_drop]; omega)]
  · rw [Nat.min_eq_right (by omega), List.drop_eq_nil_of_le (by omega), List.drop_eq_nil_of_le (by omega), List.take_nil]
theorem joinL_nil : ∀ l : List (List Nat), joinL [] l = l.flatten
  | [] => rfl
  | [p] => by simp [joinL]
  | p :: q :: r => by
    rw [joinL, joinL_nil (q :: r)]
    simp
theorem tl_join0 (ys : List Str) : tl (Txt.join Str.empty ys) = (ys.map tl).flatten := by
  rw [join_eq, tl_join]
  exact joinL_nil _
/-- the letters -/
def abc : Str := "abcdefghijklmnopqrstuvwxyz"
theorem abc_len : abc.length = 26 := by decide +kernel
theorem abc_tl : tl abc = (List.range 26).map (97 + ·) := by decide +kernel
theorem abc_mem {c : Nat} : c ∈ tl abc ↔ 97 ≤ c ∧ c < 123 := by
  rw [abc_tl, List.mem_map]
  constructor
  · rintro ⟨i, hi, rfl⟩
    rw [List.mem_range] at hi
    omega
  · rintro ⟨h1, h2⟩
    exact ⟨c - 97, List.mem_range.mpr (by omega), by omega⟩
theorem abc_at {i : Nat} (h : i < 26) : abc.cps[i]? = some (97 + i) := by
  have e : (tl abc)[i]? = some (97 + i) := by
    rw [abc_tl, List.getElem?_map, List.getElem?_range h]
    rfl
  rw [← e]
  simp [tl]
theorem abc_item {i : Int} (h0 : 0 ≤ i) (h : i < 26) : abc.cps[i.toNat]? = some (97 + i.toNat) := abc_at (by omega)
/-- a sign within fixed ones -/
theorem mid_inj {A B T T' : List Nat} {c d : Nat} (h : A ++ [c] ++ B ++ T = A ++ [d] ++ B ++ T') : c = d := by
  have e := congrArg (fun l : List Nat => l[A.length]?) h
  simpa using e
end QT
end

section
set_option Elab.async false
set_option linter.all false
set_option maxRecDepth 100000
/-! Qend: from the Hook's facts to the text's. -/
namespace QE
open PySem PySem.Spec PyProof.Rows L2 He
def ownB (K : PySem.W.Frag) (C : Addr) : Bool :=
  (eqO (PySem.W.findIn K (.ref C) "__class__") (some (some (.builtin "object.__class__"))) && (eqO (PySem.W.specialIn K (.builtin "object.__class__") "__get__") (some (some (.builtin "getset_descriptor.__get__"))) &&
  (decide (PySem.W.takesIn K (.builtin "object.__class__") = some true) && decide (PySem.W.mroIn K C (.type "object") = some true)))) &&
  ((["list", "tuple", "str", "int", "bool", "NoneType", "dict"].all fun T => decide (PySem.W.kitOne K (.type T) (.ref C) = some false) && PySem.W.notFirst K C (.type T)) &&
  (["list", "tuple", "str", "int", "bool"].all fun T => decide (PySem.W.kitOne K (.ref C) (.type T) = some false)))
theorem ownB_ok {K : PySem.W.Frag} {C : Addr} (h : ownB K C = true) : QO.OwnC K C := by
  obtain ⟨h1, h2⟩ := ba h
  obtain ⟨a1, h1⟩ := ba h1
  obtain ⟨a2, h1⟩ := ba h1
  obtain ⟨a3, a4⟩ := ba h1
  obtain ⟨h3, h4⟩ := ba h2
  have k1 := fun T (m : T ∈ ["list", "tuple", "str", "int", "bool", "NoneType", "dict"]) => ba (List.all_eq_true.mp h3 T m)
  have k2 := fun T (m : T ∈ ["list", "tuple", "str", "int", "bool"]) => of_decide_eq_true (List.all_eq_true.mp h4 T m)
  have k3 := fun T (m : T ∈ ["list", "tuple", "str", "int", "bool", "NoneType", "dict"]) => of_decide_eq_true (k1 T m).1
  have k4 := fun T (m : T ∈ ["list", "tuple", "str", "int", "bool", "NoneType", "dict"]) => (k1 T m).2
  exact ⟨eqO_ok a1, eqO_ok a2, of_decide_eq_true a3, of_decide_eq_true a4, k3 _ (by simp), k3 _ (by simp), k3 _ (by simp), k3 _ (by simp), k3 _ (by simp), k3 _ (by simp), k3 _ (by simp),
    k2 _ (by simp), k2 _ (by simp), k2 _ (by simp), k2 _ (by simp), k2 _ (by simp), k4 _ (by simp), k4 _ (by simp), k4 _ (by simp), k4 _ (by simp), k4 _ (by simp), k4 _ (by simp), k4 _ (by simp)⟩
theorem funD_fun {K : PySem.W.Frag} {x q : Str} {st : Stmt} {f : Addr} {fd : FuncData} (F : FunD K x q (defArgs st) (defBody st) (defScope st) [] [] f fd) : L2.Fun K x q st f fd := by
  obtain ⟨oc, od, dV, kV, doc, pm, an, cdv, ct, osl, h1, h2, h3, h4, h5⟩ := F.ex
  have e : dV = .none := by
    rcases h4 with ⟨_, h4⟩ | ⟨h4, _⟩
    · exact h4
    · exact absurd rfl h4
  subst e
  exact ⟨⟨oc, od, kV, doc, pm, an, cdv, ct, osl, h1, h2, h3⟩, F.kp⟩
theorem funC_of {K : PySem.W.Frag} {x q : Str} {st : Stmt} {p : Str × Option Str} {fd : FuncData} (F : FunD K x q (defArgs st) (defBody st) (defScope st) [] [] (fAd K p) fd) : QB.FunC K x q st (fAd K p) fd (codeOf K p) := by
  obtain ⟨oc, od, kV, doc, pm, an, cdv, ct, osl, h1, h2, h3⟩ := (funD_fun F).ex
  obtain ⟨c, rfl⟩ := codeIn_ref h3
  have e : codeOf K p = c := codeOf_eq h2 (by rw [h1])
  rw [e]
  exact ⟨⟨oc, od, kV, doc, pm, an, ct, osl, h1, h2, h3⟩⟩
end QE
end

section
set_option Elab.async false
set_option linter.all false
set_option maxRecDepth 100000
set_option maxHeartbeats 2000000
/-! Qexc: a caught exception that outlives its suite. -/
namespace QX
open PySem PySem.Spec PyProof.Rows L2
/-- a caught exception that is kept: its class, its dict -/
def Kept (cls : Value) (d : Option Addr) (a : Addr) : HO := .ext fun h => ∃ (oe : Obj) (vs : Array Value), h.get? a = some oe ∧ Zc cls d oe ∧ oe.data = .fields vs
theorem kept_ok {P : Program} {w : World} {H : Hp} {h : Heap} {a : Addr} {cls : Value} {d : Option Addr} {ob : Obj} {fv : Array Value} (e : h.get? a = some ob) (z : Zc cls d ob) (hd : ob.data = .fields fv) : ObjOk P w H h a (Kept cls d a) :=
  ⟨⟨ob, fv, e, z, hd⟩, ⟨ob, e⟩, fun _ _ ⟨u, v, q, r⟩ k => ⟨u, v, k u q, r⟩⟩
theorem kept_get {P : Program} {w : World} {H : Hp} {h : Heap} {a : Addr} {cls : Value} {d : Option Addr} (hok : HOk P w H h) (e : H a = some (Kept cls d a)) : ∃ (ob : Obj) (fv : Array Value), h.get? a = some ob ∧ Zc cls d ob ∧ ob.data = .fields fv :=
  (show ObjOk P w H h a (.ext _) from hok a _ e).1
/-- what stood before a was made is not a -/
structure Apart (X : Cx) (pins : List (Addr × Obj)) (a : Addr) : Prop where
  s0 : ∀ b ob, X.s_0.heap.get? b = some ob → b ≠ a
  loc : X.env.locals ≠ a
  cell : ∀ y c, X.env.cells.lookup y = some c → c ≠ a
  pin : ∀ q ∈ X.pn ++ pins, q.1 ≠ a
section
variable {X : Cx} {pins : List (Addr × Obj)} {σ : L2.St} {H : Hp} {s : Shared} {a : Addr}
theorem Apart.of (I : Inv X pins σ H s) (hex : X.ex = []) (n : s.heap.get? a = none) : Apart X pins a := by
  have out : ∀ {b : Addr} {ob : Obj}, s.heap.get? b = some ob → b ≠ a := fun e z => by
    rw [z, n] at e
    cases e
  refine ⟨fun b ob e => ?_, ?_, fun y c e => ?_, fun q hq => out (I.pin q hq).1⟩
  · obtain ⟨u, hu⟩ := I.base.there b ob e (by rw [hex]; simp)
    exact out hu
  · obtain ⟨m, ⟨u, es, ep, hu, _⟩, _⟩ := I.loc
    exact out hu
  · obtain ⟨v, u, hu, _⟩ := I.cell y c e
    exact out hu
theorem track {o : HO} (I : Inv X pins σ H s) (ap : Apart X pins a) (na : H a = none) (ok : ObjOk X.prog X.w (upd H a o) s.heap a o) : Inv X pins σ (upd H a o) s := by
  have stays : ∀ {b : Addr} {u : HO}, H b = some u → upd H a o b = some u := fun e => (upd_ne (ne_of_none e na)).trans e
  exact { I with
    base := ⟨I.base.keep, I.base.slot, fun b ob e n hq => (upd_ne (ap.s0 b ob e)).trans (I.base.free b ob e n hq), I.base.there, fun b xs e => stays (I.base.tups b xs e), fun b u xs e => stays (I.base.frzs b u xs e), fun b ps e => by
      obtain ⟨m, q⟩ := I.base.tbls b ps e
      exact ⟨m, stays q⟩⟩
    free := (upd_ne ap.loc).trans I.free
    freeC := fun y c e => (upd_ne (ap.cell y c e)).trans (I.freeC y c e)
    pin := fun q hq => by
      obtain ⟨h1, h2, h3⟩ := I.pin q hq
      exact ⟨h1, (upd_ne (ap.pin q hq)).trans h2, h3⟩
    hok := I.hok.laidN (fun _ _ e => e) na ok }
end
/-- what a clause that keeps its exception wishes: at the suite's end the exception is tracked -/
def wKeep (K : PySem.W.Frag) (c : Value) (i : Nat) (ts : Addr → Value → Option Addr → TS) (Wout : WX) (D : Ends) : WX := fun cls d σ H =>
  ∃ b, PySem.W.exmOne K cls c = some b ∧ (b = false → Wout cls d σ H) ∧
    (b = true → ∀ a, H a = none → ts a cls d { nx := fun σ1 H1 => D.nx (σ1.set i none) (upd H1 a (Kept cls d a)), rt := fun v H1 => D.rt v (upd H1 a (Kept cls d a)), bk := fun σ1 H1 => D.bk (σ1.set i none) (upd H1 a (Kept cls d a)), ct := fun σ1 H1 => D.ct (σ1.set i none) (upd H1 a (Kept cls d a)) } (σ.set i (some (.ref a))) H)
section
variable {X : Cx} {x n : Str} {c : Value} {i : Nat} {body rest : List Stmt} {st₀ : Stmt} {np hpos tpos : Pos} {tb : WX → TS} {ts : Addr → Value → Option Addr → TS} {Wout : WX}
/-- the class that the clause names, looked up while an exception is handled -/
theorem clause_name {pins : List (Addr × Obj)} {σ : L2.St} {H : Hp} {s : Shared} {a : Addr} {pn : List (Addr × Obj)} (hc : Names X x c) (S : Inv (X.suite a pn) [] σ H s) {Q : Value → Shared → Prop} {E : Value → Shared → Prop} (q : Q c s) :
    wpAny (model X.prog X.w) (X.A.mark (some (.ref a))) (eval (.Name x np) X.env) Q E s := by
  rcases hc with ⟨h1, h2, h3 | ⟨h3, h4, h5⟩⟩
  · exact ld_glob (X := X.suite a pn) S h1 h3 q h2
  · exact ld_blt (X := X.suite a pn) S h1 h3 h4 q h5 h2
theorem keep_catch {pins : List (Addr × Obj)} {xe : Value → Shared → Prop} {D : Ends} {u : Value} {s' : Shared} (ok : X.Ok) (hs : X.stack = X.env :: X.outer) (hf : X.env.frame = some X.env.locals) (hex : X.ex = []) (hN : X.N.Nodup) (hi : X.N[i]? = some n) (hln : X.env.kindOf n = some .local) (hc : Names X x c) (tk : Takes X Wout)
    (hsu : ∀ (a : Addr) (oe : Obj) (cls : Value) (d : Option Addr) (pn : List (Addr × Obj)), Zc cls d oe → (∃ vs, oe.data = .fields vs) → PSs (X.suite a ((a, oe) :: pn)) (st₀ :: rest) (ts a cls d))
    (xx : XE (X.tr (X.pn ++ pins) xe) (wKeep X.K c i ts Wout D) u s') :
    wpAny (model X.prog X.w) X.A (noteFrame u X.env) (fun _ s₂ => wpAny (model X.prog X.w) X.A (setFlight u none) (fun _ s₃ => wpAny (model X.prog X.w) X.A (handleBy u X.env [.ExceptHandler (some (.Name x np)) (some n) (st₀ :: rest) hpos]) (SP X pins D) X.xe s₃) X.xe s₂) X.xe s' := by
  have hfr : X.A.frames = some (X.env :: X.outer) := by rw [ok.frames, hs]
  obtain ⟨a, B, sI, pins', σ', H', cls, d, rfl, J', nb, up, sky, na, os, ag, b, hb, hno, hyes⟩ := xx
  replace J' : Inv X pins σ' H' sI := J'.ofTry ok
  have apart : sI.heap.get? a = none → Apart X pins a := Apart.of J' hex
  replace sky : Sky B (X.env :: X.outer) a (Zc cls d) X.env.locals s'.heap := hs ▸ sky
  refine Sky.land Zc.steady hfr hf sky fun g1 fl1 up1 => ?_
  have I1 : Inv X pins σ' H' { s' with heap := g1 } := J'.landed nb fl1.1 (up.trans up1) os ag
  obtain ⟨o1, v1, k1, z1, d1⟩ := fl1.there
  have noFrame : a ∉ frs (X.env :: X.outer) := fun hm => by
    obtain ⟨_, o2, k2, hnf⟩ := fl1.2.2.1.mem hm
    rw [k1] at k2
    cases k2
    exact hnf _ d1
  have isIn : ∀ e ∈ X.env :: X.outer, e.frame ≠ some a := fun e he q => noFrame (List.mem_filterMap.mpr ⟨e, he, q⟩)
  have nL : a ≠ X.env.locals := fun z => isIn X.env List.mem_cons_self (z ▸ hf)
  have nF : a ∉ X.fs := fun hm => by
    obtain ⟨e, he, q⟩ := List.mem_filterMap.mp hm
    exact isIn e (List.mem_cons_of_mem _ he) q
  have ap : Apart X pins a := apart (by
    cases q : sI.heap.get? a with
    | none => rfl
    | some o2 =>
      have z := nb a o2 q (by rw [hs]; exact noFrame)
      rw [fl1.2.1] at z
      cases z)
  have S1 := I1.suite k1 d1 na nL nF
  refine wpAny_handleBy_cons (codeAny_handlers_test (clause_name (pins := pins) hc S1 ?_)) (fun q => by cases q)
  have ty : PySem.W.Looks (model X.prog X.w) g1 (typeOf (.ref a)) cls := fun A Q E t k q => wpAny_typeOf_ref (k _ _ k1) (z1.1.symm ▸ q)
  refine (PySem.W.exm_one (M := model X.prog X.w) I1.kIn ty hb).here ?_
  cases b with
  | true =>
    refine codeAny_handlers_suite_as (HandSPX.lands_againZ fl1 fun g2 fl2 up2 => ?_)
    have I2 : Inv X pins σ' H' { s' with heap := g2 } := J'.landed nb fl2.1 ((up.trans up1).trans up2) os ag
    obtain ⟨o2, v2, k2, z2, d2⟩ := fl2.there
    refine store_ok (X := X.suite a ((a, o2) :: (X.pn ++ pins))) (v := .ref a) (I2.suite k2 d2 na nL nF) hN hi (.inl hln) rfl (fun s5 S5 => ?_) (.inr hln)
    refine wpAny_mono ((hsu a o2 cls d (X.pn ++ pins) z2 ⟨_, d2⟩).run [] s5 _ H' _ S5 (hyes rfl a na)) (fun fl s6 hsp => ?_) (fun _ _ z => z.elim)
    have fin : ∀ {τ : L2.St} {G : Hp} {Q : Shared → Prop}, Inv (X.suite a ((a, o2) :: (X.pn ++ pins))) [] τ G s6 → (∀ s7, Inv X pins (τ.set i none) (upd G a (Kept cls d a)) s7 → Q s7) →
        wpAny (model X.prog X.w) X.A (do bindName X.env n .none; unbindBehindTheSuite X.env n hpos) (fun _ s7 => Q s7) X.xe s6 := fun S6 hq => by
      obtain ⟨h1, h2, _⟩ := S6.pin (a, o2) (List.mem_append_left _ List.mem_cons_self)
      exact gone_ok (track (S6.unsuite ok) ap h2 (kept_ok h1 z2 d2)) hN hi hln hq
    cases fl with
    | next =>
      obtain ⟨τ, G, S6, q6⟩ := hsp
      exact fin S6 fun s7 J7 => ⟨_, _, J7, q6⟩
    | brk =>
      obtain ⟨τ, G, S6, q6⟩ := hsp
      exact fin S6 fun s7 J7 => ⟨_, _, J7, q6⟩
    | cont =>
      obtain ⟨τ, G, S6, q6⟩ := hsp
      exact fin S6 fun s7 J7 => ⟨_, _, J7, q6⟩
    | ret r =>
      obtain ⟨v6, τ, G, S6, r6, q6⟩ := hsp
      exact fin S6 fun s7 J7 => ⟨_, _, _, J7, r6, q6⟩
  | false =>
    refine wpAny_handleBy_nil ?_
    obtain ⟨_, _, _, o3, v3, T, oT, ts', k3, z3, d3, h3, r3⟩ := id fl1
    unfold PySem.passOn
    refine wpAny_bind (wpAny_field k3 d3 h3 ?_)
    rw [if_neg (fun q : (Value.ref T == Value.none) = true => by simp at q)]
    have out : wpAny (model X.prog X.w) X.A (setFlight (.ref a) X.env.frame) (fun _ s4 => wpAny (model X.prog X.w) X.A (throw (.ref a) : Sem Flow) (SP X pins D) X.xe s4) X.xe { s' with heap := g1 } := by
      rw [hf]
      refine HandSPX.setFlight_upZ fl1 fun g2 held up2 => wpAny_throw (tk _ _ ⟨a, B, sI, pins, σ', H', cls, d, rfl, J', nb, (up.trans up1).trans up2, .inr (.inr ?_), na, os, ag, hno rfl⟩)
      rw [hs]
      exact held
    first
      | exact wpAny_bind (wpAny_pure (wpAny_bind out))
      | exact wpAny_bind out
/-- try: body / except x as n: suite, the exception kept -/
theorem ps_try_keep (hs : X.stack = X.env :: X.outer) (hf : X.env.frame = some X.env.locals) (hex : X.ex = []) (hN : X.N.Nodup) (hi : X.N[i]? = some n) (hln : X.env.kindOf n = some .local) (hc : Names X x c) (tk : Takes X Wout)
    (hb : ∀ (W : WX) (pn : List (Addr × Obj)) (xe : Value → Shared → Prop), Takes (X.tr pn xe) W → PassesOwn (model X.prog X.w) X.A X.env xe → PSs (X.tr pn xe) body (tb W))
    (hsu : ∀ (a : Addr) (oe : Obj) (cls : Value) (d : Option Addr) (pn : List (Addr × Obj)), Zc cls d oe → (∃ vs, oe.data = .fields vs) → PSs (X.suite a ((a, oe) :: pn)) (st₀ :: rest) (ts a cls d)) :
    PS X (.Try body [.ExceptHandler (some (.Name x np)) (some n) (st₀ :: rest) hpos] [] [] tpos) (fun D σ H => tb (wKeep X.K c i ts Wout D) D σ H) := by
  refine ⟨fun pins s σ H D I h => ?_⟩
  refine wpAny_Try_except (wpAny_mono ((hb (wKeep X.K c i ts Wout D) (X.pn ++ pins) _ (fun u s' xx => ?_) PassesOwn.looking).run [] s σ H D (I.toTry _) h) (fun fl s1 hsp => ?_) fun _ _ he => he)
  · exact keep_catch I.ok hs hf hex hN hi hln hc tk hsu xx
  · cases fl with
    | next =>
      obtain ⟨τ, G, J, q⟩ := hsp
      exact wpAny_execs_nil ⟨τ, G, J.ofTry I.ok, q⟩
    | brk =>
      obtain ⟨τ, G, J, q⟩ := hsp
      exact ⟨τ, G, J.ofTry I.ok, q⟩
    | cont =>
      obtain ⟨τ, G, J, q⟩ := hsp
      exact ⟨τ, G, J.ofTry I.ok, q⟩
    | ret r =>
      obtain ⟨v, τ, G, J, r1, q⟩ := hsp
      exact ⟨v, τ, G, J.ofTry I.ok, r1, q⟩
end
end QX
end

section
set_option Elab.async false
set_option linter.all false
set_option maxRecDepth 100000
set_option maxHeartbeats 2000000
/-! Qexc2: isinstance of a kept exception, its fields. -/
namespace QX
open PySem PySem.Spec PyProof.Rows L2
/-- its dict, if it has one, is tracked -/
def DictAt (H : Hp) (d : Option Addr) : Prop := d = none ∨ ∃ (dd : Addr) (fs : List (Str × V)), d = some dd ∧ H dd = some (.xd fs)
section
variable {X : Cx} {pins : List (Addr × Obj)} {σ : L2.St} {H : Hp} {s : Shared} {a D : Addr} {d : Option Addr}
theorem kept_inst (I : Inv X pins σ H s) (ha : H a = some (Kept (.ref D) d a)) (hd : DictAt H d) : ∃ (ob : Obj) (od : Option Obj), PySem.W.InstAt s.heap a ob D od := by
  obtain ⟨⟨oc, od, oda, osl⟩, fv, e, ⟨z1, z2⟩, z3⟩ := kept_get I.hok ha
  dsimp only at z1 z2 z3
  subst z1 z2 z3
  rcases hd with rfl | ⟨dd, fs, rfl, hx⟩
  · exact ⟨_, none, e, rfl, rfl, trivial⟩
  · obtain ⟨m, ⟨u, es, ep, hu, _⟩, _⟩ := (show ObjOk X.prog X.w H s.heap dd (.xd fs) from I.hok dd _ hx)
    exact ⟨_, some u, e, rfl, rfl, hu⟩
theorem kept_kit (I : Inv X pins σ H s) (C : ExcC X.K D) (ha : H a = some (Kept (.ref D) d a)) (hd : DictAt H d) : ∃ P : Heap → Prop, PySem.W.KitX X.K (.ref a) (.ref D) P ∧ P s.heap := by
  obtain ⟨ob, od, J⟩ := kept_inst I ha hd
  have hcl : (PySem.W.clsIn X.K D).isSome = true := by
    have h := C.hd
    unfold PySem.W.hasDictIn at h
    cases e : PySem.W.clsIn X.K D with
    | none =>
      rw [e] at h
      cases h
    | some _ => rfl
  exact ⟨_, PySem.W.kitx_exc (od := od) hcl C.hg C.hk C.hs C.ha C.hn C.ht C.hm, J⟩
end
/-- isinstance(e, c), e kept -/
def rIsX (K : PySem.W.Frag) : List V → Hp → VK → Prop := fun xs H Q => ∃ (a D : Addr) (d : Option Addr) (c : V) (u : Value) (b : Bool), xs = [.ref a, c] ∧ H a = some (Kept (.ref D) d a) ∧ DictAt H d ∧ ExcC K D ∧ ClsV c u ∧ PySem.W.kitOne K (.ref D) u = some b ∧ Q (.bl b) H
/-- isinstance(e, (c1, c2, ..)), e kept -/
def rIsXT (K : PySem.W.Frag) : List V → Hp → VK → Prop := fun xs H Q => ∃ (a D tp : Addr) (d : Option Addr) (cs : List V) (us : List Value) (b : Bool), xs = [.ref a, .ref tp] ∧ H a = some (Kept (.ref D) d a) ∧ DictAt H d ∧ ExcC K D ∧ H tp = some (.tup cs) ∧ Paired ClsV cs us ∧ PySem.W.kitAny K (.ref D) us = some b ∧ Q (.bl b) H
section
variable {X : Cx}
theorem call_isX : CallR X (.builtin "isinstance") (rIsX X.K) := by
  intro pins s σ H xs us Q I r ⟨a, D, d, c, u, b, ex, ha, hd, C, hc, e, q⟩
  subst ex
  obtain ⟨w1, w2, rfl, r1, r2⟩ := vals2 r
  cases hc.eq r2
  cases (show w1 = Value.ref a from r1)
  obtain ⟨P, Z, p⟩ := kept_kit I C ha hd
  exact PySem.W.kia_one Z I.kIn p e (fun z => nomatch z) fun tk => ⟨.bl b, H, I.tok tk, rfl, q⟩
theorem call_isXT : CallR X (.builtin "isinstance") (rIsXT X.K) := by
  intro pins s σ H xs us Q I r ⟨a, D, tp, d, cs, ws, b, ex, ha, hd, C, hT, hc, e, q⟩
  subst ex
  obtain ⟨w1, w2, rfl, r1, r2⟩ := vals2 r
  cases (show w1 = Value.ref a from r1)
  cases (show w2 = Value.ref tp from r2)
  obtain ⟨P, Z, p⟩ := kept_kit I C ha hd
  obtain ⟨_, its, rv, ⟨oc, od, dt, sl⟩, h1, h2, n, h3⟩ := (show ObjOk X.prog X.w H s.heap tp (.tup cs) from I.hok tp _ hT)
  cases ClsV.all hc rv
  dsimp only at h2 h3
  subst h2 h3
  exact PySem.W.kia_tup Z I.kIn p h1 e (fun z => nomatch z) fun tk => ⟨.bl b, H, I.tok tk, rfl, q⟩
theorem call_isXK (K : PySem.W.Frag) (h : X.K = K := by rfl) : CallR X (.builtin "isinstance") (rIsX K) := h ▸ call_isX
theorem call_isXTK (K : PySem.W.Frag) (h : X.K = K := by rfl) : CallR X (.builtin "isinstance") (rIsXT K) := h ▸ call_isXT
/-- e.f, e kept -/
def tFx (K : PySem.W.Frag) (f : Str) (te : TE) : TE := fun σ H Q => te σ H fun x H1 => ∃ (a C dd : Addr) (fs : List (Str × V)) (v : V), x = .ref a ∧ H1 a = some (Kept (.ref C) (some dd) a) ∧ XfC K C ∧ PySem.W.findIn K (.ref C) f = some none ∧ H1 dd = some (.xd fs) ∧ fs.lookup f = some v ∧ Q v H1
theorem pe_fx {e : Expr} {te : TE} {f : Str} {pos : Pos} (he : PE X e te) (hb : attributeBase e f X.env (eval e X.env) = eval e X.env) : PE X (.Attribute e f pos) (tFx X.K f te) := by
  refine ⟨fun pins s σ H Q I h => attr_of hb (thn (he.run pins s σ H _ I h) fun u s1 ⟨x, H1, I1, rx, a, C, dd, fs, v, ex, ha, T, hno, hx, hl, q⟩ => ?_)⟩
  subst ex
  cases (show u = Value.ref a from rx)
  obtain ⟨⟨oc, od, oda, osl⟩, fv, k1, ⟨z1, z2⟩, z3⟩ := kept_get I1.hok ha
  dsimp only at z1 z2 z3
  subst z1 z2 z3
  obtain ⟨m, hns, hr⟩ := (show ObjOk X.prog X.w H1 s1.heap dd (.xd fs) from I1.hok dd _ hx)
  obtain ⟨ot, ho, hlk⟩ := lookIn_ns hns
  obtain ⟨u, hu, ru⟩ := RelO.some_of (v := v) (o := m f) (by rw [← hl]; exact hr f)
  exact HandSPX.exc_get I1.kIn (od := some ot) ⟨k1, rfl, rfl, ho⟩ T.ga T.gg T.exC (PySem.W.findObj_own T.hdC hno rfl (by rw [hlk, hu])) (handed_of ru) ⟨v, H1, I1.tok _, ru, q⟩
theorem pe_fxK (K : PySem.W.Frag) {e : Expr} {te : TE} {f : Str} {pos : Pos} (he : PE X e te) (hb : attributeBase e f X.env (eval e X.env) = eval e X.env) (h : X.K = K := by rfl) : PE X (.Attribute e f pos) (tFx K f te) := h ▸ pe_fx he hb
end
end QX
end

section
set_option Elab.async false
set_option linter.all false
set_option maxRecDepth 100000
set_option maxHeartbeats 2000000
/-! Qcls: the text's own exception classes, from the top's facts. -/
namespace QX
open PySem PySem.Spec PyProof.Rows L2 He
/-- an own exception class whose __init__ (at fI) writes the field f -/
structure ExcT (K : PySem.W.Frag) (C fI : Addr) (f : Str) : Prop where
  oex : OexC K C
  exc : ExcC K C
  xf : XfC K C
  noF : PySem.W.findIn K (.ref C) f = some none
  iC : PySem.W.findIn K (.ref C) "__init__" = some (some (.ref fI))
  tI : PySem.W.typeIn K (.ref fI) = some (.type "function")
/-- the class object is one of an exception class over ValueError -/
def clsB (K : PySem.W.Frag) (C : Addr) : Bool := match K.lookup C with
  | none => false
  | some ob => decide (ob.cls = .type "type") && (match ob.data with
    | .cls r => r.hasDict && (!r.hasDel && ((match r.mro with
      | m :: over => decide (m = .ref C) && PySem.HandSPX.refsVE over
      | [] => false) && (match ob.slots.toList with
      | [_, _, _, _, m, _] => decide (m = some (.builtin "ValueError.__new__"))
      | _ => false)))
    | _ => false)
theorem clsB_ok {K : PySem.W.Frag} {C : Addr} (h : clsB K C = true) : ∃ nm q N bs bm sn sub ab col dd k0 k1 k2 k3 k5, K.lookup C = some (excClassObj nm q C N bs bm true sn sub ab col dd k0 k1 k2 k3 k5 "ValueError.__new__") ∧ PySem.HandSPX.refsVE bm = true := by
  unfold clsB at h
  cases e : K.lookup C with
  | none =>
    rw [e] at h
    cases h
  | some ob =>
    rw [e] at h
    obtain ⟨oc, od, dt, sl⟩ := ob
    obtain ⟨h1, h2⟩ := ba h
    have h1 : oc = .type "type" := of_decide_eq_true h1
    subst h1
    cases dt with
    | cls r =>
      obtain ⟨nm, bs, mro, ns, qn, hd, sn, sub, ab, col, del⟩ := r
      obtain ⟨h3, h2⟩ := ba h2
      obtain ⟨h4, h2⟩ := ba h2
      obtain ⟨h5, h6⟩ := ba h2
      have h3 : hd = true := h3
      have h9 : del = false := by
        have h4 : (!del) = true := h4
        cases del with
        | false => rfl
        | true => cases h4
      clear h4
      subst h3 h9
      cases mro with
      | nil => cases h5
      | cons m over =>
        obtain ⟨h5, h7⟩ := ba h5
        have h5 : m = .ref C := of_decide_eq_true h5
        subst h5
        obtain ⟨l⟩ := sl
        match l, h6 with
        | [k0, k1, k2, k3, m4, k5], h6 =>
          have h6 : m4 = some (.builtin "ValueError.__new__") := of_decide_eq_true h6
          subst h6
          exact ⟨nm, qn, ns, bs, over, sn, sub, ab, col, od, k0, k1, k2, k3, k5, rfl, h7⟩
    | _ => cases h2
def excB (K : PySem.W.Frag) (C : Addr) : Bool :=
  eqO (PySem.W.findIn K (.ref C) "__getattribute__") (some (some (.builtin "BaseException.__getattribute__"))) && (eqO (PySem.W.findIn K (.ref C) "__getattr__") (some none) && (decide (PySem.W.subIn K (.ref C) (.type "BaseException") = some true) && (PySem.W.hasDictIn K C &&
  (eqO (PySem.W.findIn K (.ref C) "__class__") (some (some (.builtin "object.__class__"))) && (eqO (PySem.W.specialIn K (.builtin "object.__class__") "__get__") (some (some (.builtin "getset_descriptor.__get__"))) &&
  (decide (PySem.W.takesIn K (.builtin "object.__class__") = some true) && decide (PySem.W.mroIn K C (.type "object") = some true)))))))
theorem excB_ok {K : PySem.W.Frag} {C : Addr} (h : excB K C = true) : ExcC K C ∧ XfC K C := by
  obtain ⟨h1, h⟩ := ba h
  obtain ⟨h2, h⟩ := ba h
  obtain ⟨h3, h⟩ := ba h
  obtain ⟨h4, h⟩ := ba h
  obtain ⟨h5, h⟩ := ba h
  obtain ⟨h6, h⟩ := ba h
  obtain ⟨h7, h8⟩ := ba h
  exact ⟨⟨eqO_ok h1, eqO_ok h2, of_decide_eq_true h3, h4, eqO_ok h5, eqO_ok h6, of_decide_eq_true h7, of_decide_eq_true h8⟩, ⟨eqO_ok h1, eqO_ok h2, of_decide_eq_true h3, h4⟩⟩
def excTB (K : PySem.W.Frag) (C fI : Addr) (f : Str) : Bool :=
  clsB K C && (excB K C && (eqO (PySem.W.findIn K (.ref C) "__setattr__") (some (some (.builtin "object.__setattr__"))) && (decide (PySem.W.typeIn K (.ref C) = some (.type "type")) && (PySem.W.keepIn K (.ref C) &&
  (eqO (PySem.W.findIn K (.ref C) f) (some none) && (eqO (PySem.W.findIn K (.ref C) "__init__") (some (some (.ref fI))) && decide (PySem.W.typeIn K (.ref fI) = some (.type "function"))))))))
theorem excTB_ok {K : PySem.W.Frag} {C fI : Addr} {f : Str} (h : excTB K C fI f = true) : ExcT K C fI f := by
  obtain ⟨h1, h⟩ := ba h
  obtain ⟨h2, h⟩ := ba h
  obtain ⟨h3, h⟩ := ba h
  obtain ⟨h4, h⟩ := ba h
  obtain ⟨h5, h⟩ := ba h
  obtain ⟨h6, h⟩ := ba h
  obtain ⟨h7, h8⟩ := ba h
  obtain ⟨e1, e2⟩ := excB_ok h2
  exact ⟨⟨clsB_ok h1, eqO_ok h3, e1.hs, of_decide_eq_true h4, h5⟩, e1, e2, eqO_ok h6, eqO_ok h7, of_decide_eq_true h8⟩
/-- an own exception class without __init__ -/
structure ExcU (K : PySem.W.Frag) (C : Addr) : Prop where
  exc : ExcC K C
  tyC : PySem.W.typeIn K (.ref C) = some (.type "type")
  kC : PySem.W.keepIn K (.ref C) = true
def isB (K : PySem.W.Frag) (D C : Addr) (b : Bool) : Bool := decide (PySem.W.kitOne K (.ref D) (.ref C) = some b)
def isTB (K : PySem.W.Frag) (D : Addr) (T : String) (b : Bool) : Bool := decide (PySem.W.kitOne K (.ref D) (.type T) = some b)
def exmB (K : PySem.W.Frag) (D C : Addr) : Bool := decide (PySem.W.exmOne K (.ref D) (.ref C) = some true)
/-! what __init__ of such a class keeps -/
def spExI (K : PySem.W.Frag) (C : Addr) (f : Str) : Sp := fun vs H Q _ => ∃ (a : Addr) (y : V), vs = [.ref a, y] ∧ H a = some (exo a C none) ∧ ∀ dx, H dx = none → dx ≠ a → Q .non (upd (upd H dx (exd dx [(f, y)])) a (exo a C (some dx)))
/-- raise C(e): the reading behind e -/
theorem mkO_of {K : PySem.W.Frag} {C : Addr} {f : Str} {H1 : Hp} {v : V} {Q : XK} (k : ∀ d, H1 d = none → Q (.ref C) (some d) (upd H1 d (.xd [(f, v)]))) :
    ([v] : List V).length ≤ 1000 ∧ ∀ a, H1 a = none → spExI K C f (.ref a :: ([v] ++ [])) (upd H1 a (exo a C none))
      (fun v H2 => v = .non ∧ ∃ (d : Addr) (fs : List (Str × V)), H2 a = some (exo a C (some d)) ∧ H2 d = some (exd d fs) ∧ H1 d = none ∧ Q (.ref C) (some d) (upd (del H2 a) d (.xd fs))) (fun _ _ _ => False) := by
  refine ⟨by show 1 ≤ 1000; decide, fun a ha => ⟨a, v, rfl, upd_same, fun dx hd hne => ⟨rfl, dx, _, upd_same, Eq.trans (upd_ne hne) upd_same, ?_, ?_⟩⟩⟩
  · rw [← hd, upd_ne hne]
  · have hn : H1 dx = none := by rw [← hd, upd_ne hne]
    have e : upd (del (upd (upd (upd H1 a (exo a C none)) dx (exd dx [(f, v)])) a (exo a C (some dx))) a) dx (.xd [(f, v)]) = upd H1 dx (.xd [(f, v)]) := by
      funext b
      by_cases h1 : b = dx
      · subst h1
        rw [upd_same, upd_same]
      · rw [upd_ne h1, upd_ne h1]
        by_cases h2 : b = a
        · subst h2
          rw [del_same, ha]
        · rw [del_ne h2, upd_ne h2, upd_ne h1, upd_ne h2]
    rw [e]
    exact k dx hn
end QX
end

section
set_option Elab.async false
set_option linter.all false
set_option maxRecDepth 100000
set_option maxHeartbeats 2000000
/-! Qstr: str and repr of nested data, where nothing is being written. -/
namespace QX
open PySem PySem.Spec PyProof.Rows L2
/-- data that str and repr write without passing a line -/
structure Shows (d : PyData) : Prop where
  lay : d.canLay0 = true
  few : d.intsShort 13 = true
  show_ : d.showable = true
  weight : d.weight ≤ 1000000
  deep : d.depth ≤ 40
theorem Shows.size {d : PyData} (s : Shows d) : d.shown.length ≤ sizeLine := by
  have h := PyData.shown_le 13 (by decide) d (PyData.leavesShort_of_canLay0 13 d s.lay s.few)
  have w := s.weight
  rw [sizeLine_eq]
  omega
theorem Shows.noDict {d : PyData} (s : Shows d) {as : List Addr} : d.hasDict = true → sysModules ∉ as := PyData.noDict_hsm (PyData.hasDict_of_canLay d s.lay)
/-- what str tells of a value -/
def strD : PyData → Str
  | .str x => x
  | d => d.shown
def rStrD (K : PySem.W.Frag) : List V → Hp → VK → Prop := fun xs H Q => ∃ (v : V) (d : PyData), xs = [v] ∧ Dp K H v d ∧ Shows d ∧ Q (.str (strD d)) H
def rReprD (K : PySem.W.Frag) : List V → Hp → VK → Prop := fun xs H Q => ∃ (v : V) (d : PyData), xs = [v] ∧ Dp K H v d ∧ Shows d ∧ Q (.str d.shown) H
section
variable {X : Cx}
theorem call_strD (hg : X.A.guards = some []) (hu : X.A.units + 64 < cLine) : CallR X (.type "str") (rStrD X.K) := by
  intro pins s σ H xs us Q I r ⟨v, d, ex, hd, sh, q⟩
  subst ex
  obtain ⟨u, rfl, ru⟩ := vals1 r
  have hdp := sh.deep
  have big : ∀ {a : Addr} {as : List Addr}, u = .ref a → Reads s.heap (.ref a) d as → strD d = d.shown → wpAny (model X.prog X.w) X.A (call (.type "str") [u]) (EP X pins σ Q) X.xe s := fun {a as} e rd es => by
    rw [e]
    refine str_of_reads rd sh.show_ sh.noDict hg (by omega) (fun _ _ z => z) (fun h' t tk hk => ?_) sh.size
    exact ⟨.str (strD d), H, I.kept (t' := tk) hk, ⟨t, by rw [es]⟩, q⟩
  obtain ⟨as, rd⟩ := Dp.reads I d v u hd ru
  cases hd with
  | non =>
    cases ru
    exact PySem.P.str_of_none ⟨.str _, H, I.tok _, ⟨_, rfl⟩, q⟩
  | bl b =>
    cases ru
    exact PySem.P.str_of_bool ⟨.str _, H, I.tok _, ⟨_, rfl⟩, q⟩
  | int i =>
    obtain ⟨t, rfl⟩ := ru
    exact PySem.P.str_of_int (by simpa [PyData.showable] using sh.show_) ⟨.str _, H, I.tok _, ⟨_, rfl⟩, q⟩
  | str x =>
    obtain ⟨t, rfl⟩ := ru
    exact PySem.P.str_of_str ⟨.str x, H, I, ⟨t, rfl⟩, q⟩
  | lst h1 h2 =>
    cases ru
    exact big rfl rd rfl
  | tup h1 h2 =>
    cases ru
    exact big rfl rd rfl
theorem call_reprD (hg : X.A.guards = some []) (hu : X.A.units + 64 < cLine) : CallR X (.builtin "repr") (rReprD X.K) := by
  intro pins s σ H xs us Q I r ⟨v, d, ex, hd, sh, q⟩
  subst ex
  obtain ⟨u, rfl, ru⟩ := vals1 r
  have hdp := sh.deep
  have big : ∀ {a : Addr} {as : List Addr}, u = .ref a → Reads s.heap (.ref a) d as → wpAny (model X.prog X.w) X.A (call (.builtin "repr") [u]) (EP X pins σ Q) X.xe s := fun {a as} e rd => by
    rw [e]
    exact repr_of_reads' rd sh.show_ sh.noDict hg (by omega) (fun _ _ z => z) (fun h' t tk hk => ⟨.str d.shown, H, I.kept (t' := tk) hk, ⟨t, rfl⟩, q⟩) sh.size
  obtain ⟨as, rd⟩ := Dp.reads I d v u hd ru
  cases hd with
  | non =>
    cases ru
    exact PySem.P.repr_of_none ⟨.str _, H, I.tok _, ⟨_, rfl⟩, q⟩
  | bl b =>
    cases ru
    exact PySem.P.repr_of_bool ⟨.str _, H, I.tok _, ⟨_, rfl⟩, q⟩
  | int i =>
    obtain ⟨t, rfl⟩ := ru
    exact PySem.P.repr_of_int (by simpa [PyData.showable] using sh.show_) ⟨.str _, H, I.tok _, ⟨_, rfl⟩, q⟩
  | str x =>
    obtain ⟨t, rfl⟩ := ru
    exact PySem.P.repr_of_str ⟨.str _, H, I.tok _, ⟨_, rfl⟩, q⟩ (by have := sh.size; simpa [PyData.shown] using this)
  | lst h1 h2 =>
    cases ru
    exact big rfl rd
  | tup h1 h2 =>
    cases ru
    exact big rfl rd
theorem call_strDK (K : PySem.W.Frag) (hg : X.A.guards = some []) (hu : X.A.units + 64 < cLine) (h : X.K = K := by rfl) : CallR X (.type "str") (rStrD K) := h ▸ call_strD hg hu
theorem call_reprDK (K : PySem.W.Frag) (hg : X.A.guards = some []) (hu : X.A.units + 64 < cLine) (h : X.K = K := by rfl) : CallR X (.builtin "repr") (rReprD K) := h ▸ call_reprD hg hu
end
end QX
end

section
set_option Elab.async false
set_option linter.all false
set_option maxRecDepth 100000
set_option maxHeartbeats 2000000
/-! Qtop: the law called from the top, where nothing is being written by repr. -/
namespace QT
open PySem PySem.Spec PyProof.Rows L2 LamX
/-- the law's promise, asked of the caller's surroundings alone -/
def RunG (P : Program) (w : World) (K : PySem.W.Frag) (mg : Str → Option Value) (base : Heap) (CX : CXT) (fa : Addr) (fd : FuncData) (x : Str) (sp : Sp) : Prop :=
  ∀ (s : Shared) (H : Hp) (u : Value) (v : V) (Q : VK) (E : XK), Env0 P w K mg base callerA [] s H → BindsTo s fd ⟨[u], []⟩ [(x, u)] → RelV v u → sp [v] H Q E → codeAny (model P w) callerA (.call (.ref fa) ⟨[u], []⟩) (CR CX [] P w H s Q E) s
section
variable {P : Program} {w : World} {K : PySem.W.Frag} {mg mb : Str → Option Value} {CX : CXT} {fa a : Addr} {cs : List (Addr × Addr)} {fd : FuncData} {x : Str} {sp : Sp} {s₁ : Shared} {vs : List Value} {ns : List Int}
abbrev tabO : Obj := { cls := .none, data := .fields #[] }
abbrev lstO (vs : List Value) : Obj := { cls := .type "list", data := .seq vs.toArray }
open Classical in
/-- what is tracked at the start: the script, where it isn't written by the top, and the tables -/
noncomputable def H0 (K : PySem.W.Frag) (cs : List (Addr × Addr)) (vs : List Value) (ns : List Int) (a : Addr) : Hp := fun b =>
  if b = a ∧ K.lookup a = none then some (.frz (lstO vs) (.lst (ns.map V.int))) else if b ∈ cs.map (·.2) then some (.tbl #[]) else none
theorem h0_or {b : Addr} : (b = a ∧ K.lookup a = none ∧ H0 K cs vs ns a b = some (.frz (lstO vs) (.lst (ns.map V.int)))) ∨ (b ∈ cs.map (·.2) ∧ H0 K cs vs ns a b = some (.tbl #[])) ∨ H0 K cs vs ns a b = none := by
  unfold H0
  by_cases h1 : b = a ∧ K.lookup a = none
  · exact .inl ⟨h1.1, h1.2, if_pos h1⟩
  · rw [if_neg h1]
    by_cases h2 : b ∈ cs.map (·.2)
    · exact .inr (.inl ⟨h2, if_pos h2⟩)
    · exact .inr (.inr (if_neg h2))
theorem law_callG (KX : K.In s₁.heap) (hns : s₁.heap.Ns mainGlobals mg) (hb : s₁.heap.Ns builtinsNs mb) (hbb : ∀ x : Str, x ≠ "__name__" → mb x = bootBuiltins x) (hlim : s₁.heap.NoLimit) (hg : s₁.gens = #[])
    (hT : ∀ p ∈ cs, s₁.heap.get? p.2 = some tabO) (nT : ∀ p ∈ cs, K.lookup p.2 = none) (C : ∀ p ∈ cs, PySem.W.CodeHd s₁.heap p.1 p.2)
    (hbm : ∃ (bm : Addr) (ob : Obj), mg "__builtins__" = some (.ref bm) ∧ bm ≠ builtinsNs ∧ s₁.heap.get? bm = some ob ∧ ob.cls = .type "module" ∧ ob.dict = some builtinsNs ∧ ob.data = .plain)
    (ha : s₁.heap.get? a = some (lstO vs)) (hi : IntsAre vs ns) (hl : ns.length ≤ sizeLine)
    (F : ∀ base : Heap, K.In base → base.Ns mainGlobals mg → (∀ p ∈ cs, TabB base mg p.1 p.2) → RunG P w K mg base CX fa fd x sp) (hbind : ∀ (s : Shared) (u : Value), BindsTo s fd ⟨[u], []⟩ [(x, u)])
    (hsp : ∀ H : Hp, (∀ p ∈ cs, H p.2 = some (.tbl #[])) → SqL K H a (ns.map V.int) → sp [.ref a] H (fun v _ => v = .bl true) fun _ _ _ => False)
    (hCX : ∀ H e s', CX [] H s₁ (fun _ _ _ => False) e s' → False) :
    codeAny (model P w) callerA (.call (.ref fa) ⟨[.ref a], []⟩) (fun r s' => r = .ok (.ret (.bool true)) ∧ OldK s₁.heap s'.heap ∧ s'.os = s₁.os ∧ AllBare s'.gens) s₁ := by
  have rv := vals_ints hi
  have hvl : vs.length = ns.length := hi.length
  have tabs : ∀ {b : Addr}, b ∈ cs.map (·.2) → ∃ p ∈ cs, p.2 = b ∧ s₁.heap.get? b = some tabO := fun hb => by
    obtain ⟨p, hp, rfl⟩ := List.mem_map.mp hb
    exact ⟨p, hp, rfl, hT p hp⟩
  have aT : a ∉ cs.map (·.2) := fun hm => by
    obtain ⟨_, _, _, e⟩ := tabs hm
    rw [ha] at e
    have e2 := congrArg Obj.data (Option.some.inj e)
    cases e2
  have hTab : ∀ p ∈ cs, H0 K cs vs ns a p.2 = some (.tbl #[]) := fun p hp => by
    have hm : p.2 ∈ cs.map (·.2) := List.mem_map.mpr ⟨p, hp, rfl⟩
    rcases h0_or (K := K) (cs := cs) (vs := vs) (ns := ns) (a := a) (b := p.2) with ⟨e, _⟩ | ⟨_, h⟩ | h
    · exact absurd (e ▸ hm) aT
    · exact h
    · unfold H0 at h
      rw [if_neg (fun q : p.2 = a ∧ K.lookup a = none => aT (q.1 ▸ hm)), if_pos hm] at h
      cases h
  have hSq : SqL K (H0 K cs vs ns a) a (ns.map V.int) := by
    cases hk : K.lookup a with
    | none => exact .inl (.inr ⟨lstO vs, by unfold H0; rw [if_pos ⟨rfl, hk⟩]⟩)
    | some o =>
      have e := KX a o hk
      rw [ha] at e
      cases e
      exact .inr ⟨_, vs.toArray, _, hk, rfl, rfl, rfl, by rw [List.size_toArray, hvl]; exact hl, by simpa using rv⟩
  have hOk : HOk P w (H0 K cs vs ns a) s₁.heap := fun b u hu => by
    rcases h0_or (K := K) (cs := cs) (vs := vs) (ns := ns) (a := a) (b := b) with ⟨rfl, _, h⟩ | ⟨hm, h⟩ | h
    · rw [h] at hu
      cases hu
      exact ⟨ha, by rw [List.length_map]; exact hl, vs, _, rv, ha⟩
    · rw [h] at hu
      cases hu
      obtain ⟨_, _, _, e⟩ := tabs hm
      exact e
    · rw [h] at hu
      cases hu
  -- what is neither the script nor a table stays in sight
  have free : ∀ {b : Addr} {o : Obj}, s₁.heap.get? b = some o → (∀ k m, o.data ≠ .seq k m) → o.data ≠ .fields #[] → H0 K cs vs ns a b = none := fun {b o} e h1 h2 => by
    rcases h0_or (K := K) (cs := cs) (vs := vs) (ns := ns) (a := a) (b := b) with ⟨rfl, _⟩ | ⟨hm, _⟩ | h
    · rw [ha] at e
      cases e
      exact absurd rfl (h1 _ _)
    · obtain ⟨_, _, _, q⟩ := tabs hm
      rw [q] at e
      cases e
      exact absurd rfl h2
    · exact h
  generalize hH : H0 K cs vs ns a = H at hTab hSq hOk free
  have sight : ∀ {b : Addr} {o : Obj}, s₁.heap.get? b = some o → H b = none → (hidT s₁.heap H).get? b = some o := fun e n => hidT_get e n
  have names : ∀ {b : Addr} {m : Str → Option Value}, s₁.heap.Ns b m → (hidT s₁.heap H).Ns b m := fun {b m} ⟨o, es, ep, e, d, r⟩ => ⟨o, es, ep, sight e (free e (fun k m z => by rw [d] at z; cases z) (fun z => by rw [d] at z; cases z)), d, r⟩
  have kept : K.In (hidT s₁.heap H) := fun b o e => sight (KX b o e) (by
    rcases h0_or (K := K) (cs := cs) (vs := vs) (ns := ns) (a := a) (b := b) with ⟨rfl, n, _⟩ | ⟨hm, _⟩ | h
    · rw [e] at n
      cases n
    · obtain ⟨p, hp, rfl, _⟩ := tabs hm
      rw [nT p hp] at e
      cases e
    · rw [← hH]
      exact h)
  have tabB : ∀ p ∈ cs, TabB (hidT s₁.heap H) mg p.1 p.2 := fun p hp => by
    have here := hT p hp
    refine ⟨?_, ?_, fun z => ?_⟩
    · obtain ⟨o, us, file, tf, flags, tg, inF, text, tt, e, q1, q2, q3, q⟩ := C p hp
      refine ⟨o, us, file, tf, flags, tg, inF, text, tt, sight e (free e (fun k m z => ?_) fun z => ?_), q1, q2, q3, q⟩
      · rw [q2] at z
        cases z
      · rw [q2] at z
        cases z
        simp at q3
    · obtain ⟨bm, ob, b1, b2, b3, b4, b5, b6⟩ := hbm
      refine ⟨bm, ob, b1, b2, fun z => ?_, fun z => ?_, sight b3 (free b3 (fun k m z => ?_) fun z => ?_), b4, b5, b6⟩
      · obtain ⟨o, es, ep, e, hd, _⟩ := hns
        rw [← z, b3] at e
        cases e
        rw [b6] at hd
        cases hd
      · rw [z, here] at b3
        cases b3
        cases b6
      · rw [b6] at z
        cases z
      · rw [b6] at z
        cases z
    · obtain ⟨o, es, ep, e, hd, _⟩ := hns
      rw [z, here] at e
      cases e
      cases hd
  have modOk : L2.Mod K mg (hidT s₁.heap H) := ⟨kept, names hns, ⟨mb, names hb, hbb⟩, let ⟨mc, h1, h2⟩ := hlim; ⟨mc, names h1, h2⟩⟩
  have env0 : Env0 P w K mg (hidT s₁.heap H) callerA [] s₁ H := ⟨rfl, modOk, fun b o e => of_hidT e, Nat.le_of_eq (hidT_size _ _), trivial, fun b hb => (nomatch hb), hOk, .of_eq hg⟩
  refine codeAny_mono (F _ kept (names hns) tabB s₁ H (.ref a) (.ref a) _ _ env0 (hbind s₁ (.ref a)) rfl (hsp H hTab hSq)) fun r s' hr => ?_
  cases r with
  | error e => exact (hCX H e s' hr).elim
  | ok fl =>
    cases fl with
    | next => exact hr.elim
    | brk => exact hr.elim
    | cont => exact hr.elim
    | ret u =>
      obtain ⟨v, G, os, bare, un, okG, ru, q⟩ := hr
      obtain rfl : v = .bl true := q
      obtain rfl : u = Value.bool true := ru
      have same : ∀ {b : Addr} {o : Obj}, b ∉ cs.map (·.2) → s₁.heap.get? b = some o → s'.heap.get? b = some o := fun {b o} nb e => by
        rcases h0_or (K := K) (cs := cs) (vs := vs) (ns := ns) (a := a) (b := b) with ⟨_, _, h⟩ | ⟨hm, _⟩ | h
        · rw [hH] at h
          obtain ⟨e1, _⟩ := hOk b _ h
          obtain ⟨e2, _⟩ := okG b _ (un.frzs b _ _ h)
          rw [e1] at e
          cases e
          exact e2
        · exact absurd hm nb
        · rw [hH] at h
          exact un.keep b o e h (fun z => nomatch z) (fun z => nomatch z)
      refine ⟨rfl, ⟨fun b o e => ?_, fun b o e => ?_⟩, os, bare⟩
      · by_cases hb : b ∈ cs.map (·.2)
        · obtain ⟨p, hp, rfl, q⟩ := tabs hb
          obtain ⟨more, z⟩ := un.tbls p.2 #[] (hTab p hp)
          rw [q] at e
          cases e
          exact .inr (.inl ⟨((C p hp).tab q).isCodeTable, rfl, #[], more, rfl, okG p.2 _ z⟩)
        · exact .inl (same hb e)
      · by_cases hb : b ∈ cs.map (·.2)
        · obtain ⟨p, hp, rfl, q⟩ := tabs hb
          obtain ⟨more, z⟩ := un.tbls p.2 #[] (hTab p hp)
          exact ⟨_, okG p.2 _ z⟩
        · exact ⟨o, same hb e⟩
end
/-- what is known of the law's promise at the head's heap -/
def LawG (l : PySem.W.OpenLaw) (w : World) (K : PySem.W.Frag) (CX : CXT) (n : Nat) (x : Str) (mg : Str → Option Value) (fa : Addr) (h : Heap) : Prop :=
  ∃ (fd : FuncData) (cs : List (Addr × Addr)) (sp : Sp), (∀ p ∈ cs, h.get? p.2 = some tabO) ∧ (∀ p ∈ cs, K.lookup p.2 = none) ∧ (∀ p ∈ cs, PySem.W.CodeHd h p.1 p.2) ∧ (∀ (s : Shared) (u : Value), BindsTo s fd ⟨[u], []⟩ [(x, u)]) ∧
    (∀ (H : Hp) (a : Addr) (ns : List Int), ns.length ≤ n → (∀ p ∈ cs, H p.2 = some (.tbl #[])) → SqL K H a (ns.map V.int) → sp [.ref a] H (fun v _ => v = .bl true) fun _ _ _ => False) ∧
    ∀ base : Heap, K.In base → base.Ns mainGlobals mg → (∀ p ∈ cs, TabB base mg p.1 p.2) → RunG l.prog w K mg base CX fa fd x sp
theorem walk_ofG {l : PySem.W.OpenLaw} {n : Nat} {q : Program} {loose : List Str} {XP : (Str → Option Value) → Heap → Prop} {YP : World → Heap → Prop} {d : DefRec} {CX : World → CXT} {x : Str}
    (hn : l.most = some n) (hn2 : n ≤ sizeLine) (hdf : d.params.defaults = [])
    (F : ∀ (w : World) (mg : Str → Option Value) (fa : Addr) (h : Heap), YP w h → h.Ns mainGlobals mg → mg d.name = some (.ref fa) → ∃ K : PySem.W.Frag, K.In h ∧ LawG l w K (CX w) n x mg fa h)
    (hCX : ∀ (w : World) (H : Hp) (s : Shared) (e : Value) (s' : Shared), CX w [] H s (fun _ _ _ => False) e s' → False) :
    PySem.W.WalkO q loose XP YP l.row.toRowW d [] (fun f vs => PySem.call f vs) := by
  refine Att.attach_callB hn hdf fun w s₀ s₁ mg mb fa o pm cd doc a vs ns G Y ho hd hcd hmg hobj hints hlen _ hg => ?_
  obtain ⟨K, KX, fd, cs, sp, h1, h2, h3, h4, h5, h6⟩ := F w mg fa _ Y G.T.g hmg
  exact law_callG KX G.T.g G.T.b G.T.builtins G.T.nolimit hg h1 h2 h3 G.T.bmain hobj hints (Nat.le_trans hlen hn2) h6 h4 (fun H a1 a2 => h5 H a ns hlen a1 a2) fun H e s' => hCX w H s₁ e s'
end QT
namespace QT
open PySem PySem.Spec PyProof.Rows L2 LamX
theorem guards0 {env : Env} : (callerA.deeper env).guards = some [] := by
  first
    | rfl
    | simp [callerA, Around.deeper]
section
variable {P : Program} {w : World} {K : PySem.W.Frag} {mg : Str → Option Value} {base : Heap}
/-- the promise out of the body, in the caller's surroundings -/
theorem run_ofG {x qual y : Str} {st : Stmt} {f : Addr} {fd : FuncData} {N : List Str} {k : Nat} {sp : Sp} (F : Fun K x qual st f fd) (S : FnScope N [y] (defScope st)) (hr : Room (k + 1) callerA) (len : ∀ vs H Q E, sp vs H Q E → vs.length = 1)
    (hbody : ∀ (cdv : Value) (s : Shared) (H : Hp) (vs : List V) (Q : VK) (E : XK), Room k (callerA.deeper (envOfC qual (defScope st) s.heap.objs.size f cdv)) → sp vs H Q E →
      ∃ t, PSs (cxOf CX0 P w K mg base N qual (defScope st) f cdv callerA [] s H E).nox (defBody st) t ∧ t { nx := fun _ H' => Q .non H', rt := Q } (start N vs) H) : RunG P w K mg base CX0 f fd y sp := by
  obtain ⟨oc, od, kV, doc, pm, an, cdv, ct, osl, rfl, lk, hcd⟩ := F.ex
  intro s H u v Q E e0 hb r hsp
  have stay : ∀ b o, base.get? b = some o → s.heap.get? b = some o := fun b o e => (e0.bs b o e).1
  have kin : K.In s.heap := e0.mod.kin.keeps stay
  have where_ : ∀ z ∈ [(y, u)], (defScope st).names.lookup z.1 = some .local ∨ ((defScope st).names.lookup z.1 = some .cell ∧ ((cellsFrom (s.heap.objs.size + 1) (defScope st).names []).lookup z.1).isSome = true) := fun z hz => by
    have e : z = (y, u) := by simpa using hz
    rcases S.par z.1 (by rw [e]; exact List.mem_singleton.mpr rfl) with q | q
    · exact .inl q
    · exact .inr ⟨q, PySem.W.cellsFrom_some _ _ _ (.inl q)⟩
  refine codeAny_call_function hr.depth (kin _ _ lk) rfl S.co S.gen rfl (PySem.W.codeRec_of kin hcd) (hb _ _ _ _ (wpAny_newFunctionEnv_cells S.kind where_ fun env he s1 q1 => ?_))
  subst he
  refine ⟨(e0.mod.nolimit.keeps stay).keeps q1.toInCall.keep, codeAny_func ?_⟩
  obtain ⟨t, ht, hq⟩ := hbody cdv s H [v] Q E (hr.deeper _) hsp
  have I : Inv (cxOf CX0 P w K mg base N qual (defScope st) f cdv callerA [] s H E) [] (start N [v]) H s1 := inv_start (ps := [y]) (us := [u]) S hr.hd e0 rfl (.cons r .nil) q1
  refine wpAny_mono (ht.nox.run [] s1 (start N [v]) H _ I hq) (fun fl s' hs => ?_) fun _ _ hs => hs
  cases fl with
  | ret z =>
    obtain ⟨v', τ, G, J, rv, q⟩ := hs
    exact ⟨v', G, J.os, J.bare, J.base, J.hok, rv, q⟩
  | next =>
    obtain ⟨τ, G, J, q⟩ := hs
    exact ⟨.non, G, J.os, J.bare, J.base, J.hok, rfl, q⟩
  | brk =>
    obtain ⟨τ, G, J, q⟩ := hs
    exact q.elim
  | cont =>
    obtain ⟨τ, G, J, q⟩ := hs
    exact q.elim
end
end QT
end

section
set_option Elab.async false
set_option linter.all false
set_option maxRecDepth 100000
set_option maxHeartbeats 4000000
namespace Law
open PySem PySem.Spec PyProof.Rows L2 LamX QB QM
def topS (i : Nat) : Stmt := PySem.Challenge.pw_subjecttags_k60_subjects_as_text.main.body.getD i (.Pass ⟨0, 0, 0, 0⟩)
abbrev s_InvalidTags___init__ : Stmt := inClass (topS 2) 0
theorem sc_InvalidTags___init__ : FnScope ["self", "index"] ["self", "index"] (defScope s_InvalidTags___init__) := ⟨rfl, rfl, rfl, by decide +kernel, rfl, by decide +kernel, by decide +kernel⟩
abbrev s_InvalidSubject___init__ : Stmt := inClass (topS 3) 0
theorem sc_InvalidSubject___init__ : FnScope ["self", "index"] ["self", "index"] (defScope s_InvalidSubject___init__) := ⟨rfl, rfl, rfl, by decide +kernel, rfl, by decide +kernel, by decide +kernel⟩
abbrev s_InvalidEater___init__ : Stmt := inClass (topS 4) 0
theorem sc_InvalidEater___init__ : FnScope ["self", "index"] ["self", "index"] (defScope s_InvalidEater___init__) := ⟨rfl, rfl, rfl, by decide +kernel, rfl, by decide +kernel, by decide +kernel⟩
abbrev s_InvalidText___init__ : Stmt := inClass (topS 5) 0
theorem sc_InvalidText___init__ : FnScope ["self", "line"] ["self", "line"] (defScope s_InvalidText___init__) := ⟨rfl, rfl, rfl, by decide +kernel, rfl, by decide +kernel, by decide +kernel⟩
abbrev s_is_list : Stmt := topS 11
theorem sc_is_list : FnScope ["x", "least", "most"] ["x", "least", "most"] (defScope s_is_list) := ⟨rfl, rfl, rfl, by decide +kernel, rfl, by decide +kernel, by decide +kernel⟩
abbrev s_is_name : Stmt := topS 12
theorem sc_is_name : FnScope ["x", "letter"] ["x"] (defScope s_is_name) := ⟨rfl, rfl, rfl, by decide +kernel, rfl, by decide +kernel, by decide +kernel⟩
abbrev s_is_tag : Stmt := topS 13
theorem sc_is_tag : FnScope ["tags", "x"] ["tags", "x"] (defScope s_is_tag) := ⟨rfl, rfl, rfl, by decide +kernel, rfl, by decide +kernel, by decide +kernel⟩
abbrev s_check_tags : Stmt := topS 14
theorem sc_check_tags : FnScope ["tags", "at", "tag"] ["tags"] (defScope s_check_tags) := ⟨rfl, rfl, rfl, by decide +kernel, rfl, by decide +kernel, by decide +kernel⟩
abbrev s_check_word : Stmt := topS 15
theorem sc_check_word : FnScope ["tags", "word", "most", "at", "tag"] ["tags", "word", "most"] (defScope s_check_word) := ⟨rfl, rfl, rfl, by decide +kernel, rfl, by decide +kernel, by decide +kernel⟩
abbrev s_written : Stmt := topS 18
theorem sc_written : FnScope ["subject"] ["subject"] (defScope s_written) := ⟨rfl, rfl, rfl, by decide +kernel, rfl, by decide +kernel, by decide +kernel⟩
abbrev s_read_word : Stmt := topS 19
theorem sc_read_word : FnScope ["tags", "text", "most", "word", "tag"] ["tags", "text", "most"] (defScope s_read_word) := ⟨rfl, rfl, rfl, by decide +kernel, rfl, by decide +kernel, by decide +kernel⟩
abbrev s_subject_text : Stmt := topS 20
theorem sc_subject_text : FnScope ["tags", "subject"] ["tags", "subject"] (defScope s_subject_text) := ⟨rfl, rfl, rfl, by decide +kernel, rfl, by decide +kernel, by decide +kernel⟩
abbrev s_read_subject : Stmt := topS 21
theorem sc_read_subject : FnScope ["tags", "text", "subject"] ["tags", "text"] (defScope s_read_subject) := ⟨rfl, rfl, rfl, by decide +kernel, rfl, by decide +kernel, by decide +kernel⟩
abbrev s__law_mixed : Stmt := topS 23
theorem sc__law_mixed : FnScope ["cell", "k", "number"] ["cell", "k"] (defScope s__law_mixed) := ⟨rfl, rfl, rfl, by decide +kernel, rfl, by decide +kernel, by decide +kernel⟩
abbrev s__law_pile : Stmt := topS 24
theorem sc__law_pile : FnScope ["script", "k", "cell", "great"] ["script", "k"] (defScope s__law_pile) := ⟨rfl, rfl, rfl, by decide +kernel, rfl, by decide +kernel, by decide +kernel⟩
abbrev s__law_take : Stmt := topS 25
theorem sc__law_take : FnScope ["pile", "many", "digit"] ["pile", "many"] (defScope s__law_take) := ⟨rfl, rfl, rfl, by decide +kernel, rfl, by decide +kernel, by decide +kernel⟩
abbrev s__law_order : Stmt := topS 26
theorem sc__law_order : FnScope ["pile", "many", "left", "found"] ["pile", "many"] (defScope s__law_order) := ⟨rfl, rfl, rfl, by decide +kernel, rfl, by decide +kernel, by decide +kernel⟩
abbrev s__law_tags : Stmt := topS 27
theorem sc__law_tags : FnScope ["pile", "many", "letters", "plain", "at", "stem", "shift", "pace", "k"] ["pile", "many"] (defScope s__law_tags) := ⟨rfl, rfl, rfl, by decide +kernel, rfl, by decide +kernel, by decide +kernel⟩
abbrev s__law_word : Stmt := topS 28
theorem sc__law_word : FnScope ["pile", "tags", "most", "turn"] ["pile", "tags", "most"] (defScope s__law_word) := ⟨rfl, rfl, rfl, by decide +kernel, rfl, by decide +kernel, by decide +kernel⟩
abbrev s__law_standings : Stmt := topS 29
theorem sc__law_standings : FnScope ["pile", "tags", "most", "long", "many", "found", "k", "ways", "tag"] ["pile", "tags", "most", "long"] (defScope s__law_standings) := ⟨rfl, rfl, rfl, by decide +kernel, rfl, by decide +kernel, by decide +kernel⟩
abbrev s__law_eaten : Stmt := topS 30
theorem sc__law_eaten : FnScope ["tags", "standings", "subject", "place", "count"] ["tags", "standings", "subject"] (defScope s__law_eaten) := ⟨rfl, rfl, rfl, by decide +kernel, rfl, by decide +kernel, by decide +kernel⟩
abbrev s__law_row_done : Stmt := topS 31
theorem sc__law_row_done : FnScope ["tags", "every", "subject", "row", "found", "number"] ["tags", "every", "subject", "row"] (defScope s__law_row_done) := ⟨rfl, rfl, rfl, by decide +kernel, rfl, by decide +kernel, by decide +kernel⟩
abbrev s__law_told : Stmt := topS 32
theorem sc__law_told : FnScope ["way", "tags", "thing", "error", "found", "e"] ["way", "tags", "thing"] (defScope s__law_told) := ⟨rfl, rfl, rfl, by decide +kernel, rfl, by decide +kernel, by decide +kernel⟩
abbrev s__law_written : Stmt := topS 33
theorem sc__law_written : FnScope ["subject", "text", "tag"] ["subject"] (defScope s__law_written) := ⟨rfl, rfl, rfl, by decide +kernel, rfl, by decide +kernel, by decide +kernel⟩
abbrev s__law_subject_due : Stmt := topS 34
theorem sc__law_subject_due : FnScope ["tags", "subject", "k", "tag"] ["tags", "subject"] (defScope s__law_subject_due) := ⟨rfl, rfl, rfl, by decide +kernel, rfl, by decide +kernel, by decide +kernel⟩
abbrev s__law_text_due : Stmt := topS 35
theorem sc__law_text_due : FnScope ["tags", "text", "words", "word"] ["tags", "text"] (defScope s__law_text_due) := ⟨rfl, rfl, rfl, by decide +kernel, rfl, by decide +kernel, by decide +kernel⟩
abbrev s__law_bent : Stmt := topS 36
theorem sc__law_bent : FnScope ["pile", "text", "at", "sign", "menu"] ["pile", "text"] (defScope s__law_bent) := ⟨rfl, rfl, rfl, by decide +kernel, rfl, by decide +kernel, by decide +kernel⟩
abbrev s_law : Stmt := topS 37
theorem sc_law : FnScope ["script", "at", "pile", "tags", "subject", "full", "odd", "place", "spoilt", "some", "before", "text", "bent_text", "texts", "wrong", "due", "way", "thing"] ["script"] (defScope s_law) := ⟨rfl, rfl, rfl, by decide +kernel, rfl, by decide +kernel, by decide +kernel⟩
structure TX (K : PySem.W.Frag) (mg : Str → Option Value) : Type where
  n_ValueError : mg "ValueError" = none
  n_abs : mg "abs" = none
  n_all : mg "all" = none
  n_enumerate : mg "enumerate" = none
  n_int : mg "int" = none
  n_isinstance : mg "isinstance" = none
  n_len : mg "len" = none
  n_list : mg "list" = none
  n_range : mg "range" = none
  n_str : mg "str" = none
  n_tuple : mg "tuple" = none
  c_LETTERS : ∃ u, mg "LETTERS" = some u ∧ RelV (.str "abcdefghijklmnopqrstuvwxyz") u
  c_MOST_LETTERS : ∃ u, mg "MOST_LETTERS" = some u ∧ RelV (.int 8) u
  c_MOST_TAGS : ∃ u, mg "MOST_TAGS" = some u ∧ RelV (.int 6) u
  c_LONGEST_SUBJECT : ∃ u, mg "LONGEST_SUBJECT" = some u ∧ RelV (.int 200) u
  c_NO_TAGS : ∃ u, mg "NO_TAGS" = some u ∧ RelV (.str "-") u
  d_is_list : QB.TopAt K mg "is_list" s_is_list ["x", "least", "most"]
  d_is_name : QB.TopAt K mg "is_name" s_is_name ["x"]
  d_is_tag : QB.TopAt K mg "is_tag" s_is_tag ["tags", "x"]
  d_check_tags : QB.TopAt K mg "check_tags" s_check_tags ["tags"]
  d_check_word : QB.TopAt K mg "check_word" s_check_word ["tags", "word", "most"]
  d_written : QB.TopAt K mg "written" s_written ["subject"]
  d_read_word : QB.TopAt K mg "read_word" s_read_word ["tags", "text", "most"]
  d_subject_text : QB.TopAt K mg "subject_text" s_subject_text ["tags", "subject"]
  d_read_subject : QB.TopAt K mg "read_subject" s_read_subject ["tags", "text"]
  d__law_mixed : QB.TopAt K mg "_law_mixed" s__law_mixed ["cell", "k"]
  d__law_pile : QB.TopAt K mg "_law_pile" s__law_pile ["script", "k"]
  d__law_take : QB.TopAt K mg "_law_take" s__law_take ["pile", "many"]
  d__law_order : QB.TopAt K mg "_law_order" s__law_order ["pile", "many"]
  d__law_tags : QB.TopAt K mg "_law_tags" s__law_tags ["pile", "many"]
  d__law_word : QB.TopAt K mg "_law_word" s__law_word ["pile", "tags", "most"]
  d__law_standings : QB.TopAt K mg "_law_standings" s__law_standings ["pile", "tags", "most", "long"]
  d__law_eaten : QB.TopAt K mg "_law_eaten" s__law_eaten ["tags", "standings", "subject"]
  d__law_row_done : QB.TopAt K mg "_law_row_done" s__law_row_done ["tags", "every", "subject", "row"]
  d__law_told : QB.TopAt K mg "_law_told" s__law_told ["way", "tags", "thing"]
  d__law_written : QB.TopAt K mg "_law_written" s__law_written ["subject"]
  d__law_subject_due : QB.TopAt K mg "_law_subject_due" s__law_subject_due ["tags", "subject"]
  d__law_text_due : QB.TopAt K mg "_law_text_due" s__law_text_due ["tags", "text"]
  d__law_bent : QB.TopAt K mg "_law_bent" s__law_bent ["pile", "text"]
  d_law : QB.TopAt K mg "law" s_law ["script"]
  e_TagError : Addr
  me_TagError : mg "TagError" = some (.ref e_TagError)
  e_InvalidTags : Addr
  me_InvalidTags : mg "InvalidTags" = some (.ref e_InvalidTags)
  d_InvalidTags___init__ : QB.DefAt K "__init__" "InvalidTags.__init__" s_InvalidTags___init__ ["self", "index"]
  xt_InvalidTags : QX.ExcT K e_InvalidTags d_InvalidTags___init__.a "index"
  e_InvalidSubject : Addr
  me_InvalidSubject : mg "InvalidSubject" = some (.ref e_InvalidSubject)
  d_InvalidSubject___init__ : QB.DefAt K "__init__" "InvalidSubject.__init__" s_InvalidSubject___init__ ["self", "index"]
  xt_InvalidSubject : QX.ExcT K e_InvalidSubject d_InvalidSubject___init__.a "index"
  e_InvalidEater : Addr
  me_InvalidEater : mg "InvalidEater" = some (.ref e_InvalidEater)
  d_InvalidEater___init__ : QB.DefAt K "__init__" "InvalidEater.__init__" s_InvalidEater___init__ ["self", "index"]
  xt_InvalidEater : QX.ExcT K e_InvalidEater d_InvalidEater___init__.a "index"
  e_InvalidText : Addr
  me_InvalidText : mg "InvalidText" = some (.ref e_InvalidText)
  d_InvalidText___init__ : QB.DefAt K "__init__" "InvalidText.__init__" s_InvalidText___init__ ["self", "line"]
  xt_InvalidText : QX.ExcT K e_InvalidText d_InvalidText___init__.a "line"
  ex_InvalidTags : PySem.W.exmOne K (.ref e_InvalidTags) (.ref e_TagError) = some true
  kv_InvalidTags : PySem.W.kitOne K (.ref e_InvalidTags) (.type "ValueError") = some true
  ki_InvalidTags_TagError : PySem.W.kitOne K (.ref e_InvalidTags) (.ref e_TagError) = some true
  ki_InvalidTags_InvalidTags : PySem.W.kitOne K (.ref e_InvalidTags) (.ref e_InvalidTags) = some true
  ki_InvalidTags_InvalidSubject : PySem.W.kitOne K (.ref e_InvalidTags) (.ref e_InvalidSubject) = some false
  ki_InvalidTags_InvalidEater : PySem.W.kitOne K (.ref e_InvalidTags) (.ref e_InvalidEater) = some false
  ki_InvalidTags_InvalidText : PySem.W.kitOne K (.ref e_InvalidTags) (.ref e_InvalidText) = some false
  ex_InvalidSubject : PySem.W.exmOne K (.ref e_InvalidSubject) (.ref e_TagError) = some true
  kv_InvalidSubject : PySem.W.kitOne K (.ref e_InvalidSubject) (.type "ValueError") = some true
  ki_InvalidSubject_TagError : PySem.W.kitOne K (.ref e_InvalidSubject) (.ref e_TagError) = some true
  ki_InvalidSubject_InvalidTags : PySem.W.kitOne K (.ref e_InvalidSubject) (.ref e_InvalidTags) = some false
  ki_InvalidSubject_InvalidSubject : PySem.W.kitOne K (.ref e_InvalidSubject) (.ref e_InvalidSubject) = some true
  ki_InvalidSubject_InvalidEater : PySem.W.kitOne K (.ref e_InvalidSubject) (.ref e_InvalidEater) = some false
  ki_InvalidSubject_InvalidText : PySem.W.kitOne K (.ref e_InvalidSubject) (.ref e_InvalidText) = some false
  ex_InvalidEater : PySem.W.exmOne K (.ref e_InvalidEater) (.ref e_TagError) = some true
  kv_InvalidEater : PySem.W.kitOne K (.ref e_InvalidEater) (.type "ValueError") = some true
  ki_InvalidEater_TagError : PySem.W.kitOne K (.ref e_InvalidEater) (.ref e_TagError) = some true
  ki_InvalidEater_InvalidTags : PySem.W.kitOne K (.ref e_InvalidEater) (.ref e_InvalidTags) = some false
  ki_InvalidEater_InvalidSubject : PySem.W.kitOne K (.ref e_InvalidEater) (.ref e_InvalidSubject) = some false
  ki_InvalidEater_InvalidEater : PySem.W.kitOne K (.ref e_InvalidEater) (.ref e_InvalidEater) = some true
  ki_InvalidEater_InvalidText : PySem.W.kitOne K (.ref e_InvalidEater) (.ref e_InvalidText) = some false
  ex_InvalidText : PySem.W.exmOne K (.ref e_InvalidText) (.ref e_TagError) = some true
  kv_InvalidText : PySem.W.kitOne K (.ref e_InvalidText) (.type "ValueError") = some true
  ki_InvalidText_TagError : PySem.W.kitOne K (.ref e_InvalidText) (.ref e_TagError) = some true
  ki_InvalidText_InvalidTags : PySem.W.kitOne K (.ref e_InvalidText) (.ref e_InvalidTags) = some false
  ki_InvalidText_InvalidSubject : PySem.W.kitOne K (.ref e_InvalidText) (.ref e_InvalidSubject) = some false
  ki_InvalidText_InvalidEater : PySem.W.kitOne K (.ref e_InvalidText) (.ref e_InvalidEater) = some false
  ki_InvalidText_InvalidText : PySem.W.kitOne K (.ref e_InvalidText) (.ref e_InvalidText) = some true
section
variable {P : Program} {w : World} {K : PySem.W.Frag} {mg : Str → Option Value} {base : Heap}
theorem ok_InvalidTags___init__ (X : TX K mg) : FnOk P w K mg base CX0 1 X.d_InvalidTags___init__.a X.d_InvalidTags___init__.fd ["self", "index"] (QX.spExI K X.e_InvalidTags "index") := by
  have nd := sc_InvalidTags___init__.nd
  refine X.d_InvalidTags___init__.F.ok sc_InvalidTags___init__ (fun vs H Q E h => ?_) (fun cdv A outer s H vs Q E hr h => ?_)
  · obtain ⟨a, y, rfl, _⟩ := h
    rfl
  · obtain ⟨a, y, rfl, ha, k⟩ := h
    refine ⟨_, (pss_one (ps_ost (pv 0) (pv 1))), ?_⟩
    try dsimp only [Cx.nox, Cx.wish, cxOf]
    exact ⟨_, rfl, _, rfl, a, X.e_InvalidTags, rfl, X.xt_InvalidTags.oex, X.xt_InvalidTags.noF, .inl ⟨ha, fun dx h1 h2 => k dx h1 h2⟩⟩
theorem ok_InvalidSubject___init__ (X : TX K mg) : FnOk P w K mg base CX0 1 X.d_InvalidSubject___init__.a X.d_InvalidSubject___init__.fd ["self", "index"] (QX.spExI K X.e_InvalidSubject "index") := by
  have nd := sc_InvalidSubject___init__.nd
  refine X.d_InvalidSubject___init__.F.ok sc_InvalidSubject___init__ (fun vs H Q E h => ?_) (fun cdv A outer s H vs Q E hr h => ?_)
  · obtain ⟨a, y, rfl, _⟩ := h
    rfl
  · obtain ⟨a, y, rfl, ha, k⟩ := h
    refine ⟨_, (pss_one (ps_ost (pv 0) (pv 1))), ?_⟩
    try dsimp only [Cx.nox, Cx.wish, cxOf]
    exact ⟨_, rfl, _, rfl, a, X.e_InvalidSubject, rfl, X.xt_InvalidSubject.oex, X.xt_InvalidSubject.noF, .inl ⟨ha, fun dx h1 h2 => k dx h1 h2⟩⟩
theorem ok_InvalidEater___init__ (X : TX K mg) : FnOk P w K mg base CX0 1 X.d_InvalidEater___init__.a X.d_InvalidEater___init__.fd ["self", "index"] (QX.spExI K X.e_InvalidEater "index") := by
  have nd := sc_InvalidEater___init__.nd
  refine X.d_InvalidEater___init__.F.ok sc_InvalidEater___init__ (fun vs H Q E h => ?_) (fun cdv A outer s H vs Q E hr h => ?_)
  · obtain ⟨a, y, rfl, _⟩ := h
    rfl
  · obtain ⟨a, y, rfl, ha, k⟩ := h
    refine ⟨_, (pss_one (ps_ost (pv 0) (pv 1))), ?_⟩
    try dsimp only [Cx.nox, Cx.wish, cxOf]
    exact ⟨_, rfl, _, rfl, a, X.e_InvalidEater, rfl, X.xt_InvalidEater.oex, X.xt_InvalidEater.noF, .inl ⟨ha, fun dx h1 h2 => k dx h1 h2⟩⟩
theorem ok_InvalidText___init__ (X : TX K mg) : FnOk P w K mg base CX0 1 X.d_InvalidText___init__.a X.d_InvalidText___init__.fd ["self", "line"] (QX.spExI K X.e_InvalidText "line") := by
  have nd := sc_InvalidText___init__.nd
  refine X.d_InvalidText___init__.F.ok sc_InvalidText___init__ (fun vs H Q E h => ?_) (fun cdv A outer s H vs Q E hr h => ?_)
  · obtain ⟨a, y, rfl, _⟩ := h
    rfl
  · obtain ⟨a, y, rfl, ha, k⟩ := h
    refine ⟨_, (pss_one (ps_ost (pv 0) (pv 1))), ?_⟩
    try dsimp only [Cx.nox, Cx.wish, cxOf]
    exact ⟨_, rfl, _, rfl, a, X.e_InvalidText, rfl, X.xt_InvalidText.oex, X.xt_InvalidText.noF, .inl ⟨ha, fun dx h1 h2 => k dx h1 h2⟩⟩
end
end Law
end

section
set_option Elab.async false
set_option linter.all false
set_option maxRecDepth 100000
set_option maxHeartbeats 4000000
namespace Law
open PySem PySem.Spec PyProof.Rows L2 LamX QB QM
theorem kit_list_list {K : PySem.W.Frag} : PySem.W.kitOne K (.type "list") (.type "list") = some true := kit_ty (by decide +kernel)
theorem kit_str_str {K : PySem.W.Frag} : PySem.W.kitOne K (.type "str") (.type "str") = some true := kit_ty (by decide +kernel)
def letters : Str := "abcdefghijklmnopqrstuvwxyz"
/-- a name of a tag -/
structure NameOk (t : Str) : Prop where
  pos : 1 ≤ t.length
  len : t.length ≤ 8
  all : ∀ c ∈ t.cps.toList, c ∈ letters.cps.toList
theorem NameOk.txt {t : Str} (h : NameOk t) : PyData.strOk t = true := by
  unfold PyData.strOk
  rw [← Array.all_toList, List.all_eq_true]
  intro c hc
  have := h.all c hc
  have small : ∀ c ∈ letters.cps.toList, decide (c < 0x110000) = true := by decide +kernel
  exact small c this
structure TagsOk (tags : List Str) : Prop where
  pos : 1 ≤ tags.length
  len : tags.length ≤ 6
  nd : tags.Nodup
  names : ∀ t ∈ tags, NameOk t
theorem TagsOk.ok {tags : Word} (to : TagsOk tags) : OkWord tags := fun t ht => (to.names t ht).txt
/-! any values handed to the checks -/
def isS : V → Bool
  | .str _ => true
  | _ => false
def valTag (tags : List Str) : V → Bool
  | .str t => decide (t ∈ tags)
  | _ => false
def nameB (t : Str) : Bool := decide (1 ≤ t.length) && (decide (t.length ≤ 8) && t.cps.toList.all fun c => decide (c ∈ letters.cps.toList))
def isNameV : V → Bool
  | .str t => nameB t
  | _ => false
theorem nameB_ok {t : Str} (h : NameOk t) : nameB t = true := by
  unfold nameB
  rw [decide_eq_true h.pos, decide_eq_true h.len, List.all_eq_true.mpr fun c hc => decide_eq_true (h.all c hc)]
  rfl
/-- a value of a known kind: whether it is a text -/
def Kd (K : PySem.W.Frag) (H : Hp) (x : V) : Prop := ∃ ty, TyX K H x ty ∧ PySem.W.kitOne K ty (.type "str") = some (isS x)
theorem tySame {K : PySem.W.Frag} {H H' : Hp} {x : V} {ty : Value} (h : TyX K H x ty) (s : Same H H') : TyX K H' x ty := by
  cases h with
  | base b =>
    refine .base ?_
    cases b with
    | non => exact .non
    | bl y => exact .bl y
    | int i => exact .int i
    | str y => exact .str y
    | flt y => exact .flt y
    | lst e => exact .lst (s _ _ e)
    | frz e => exact .frz (s _ _ e)
    | tup e => exact .tup (s _ _ e)
    | dK e => exact .dK (s _ _ e)
    | dT e => exact .dT (s _ _ e)
    | ins e cl ha hn htk hm => exact .ins (s _ _ e) cl ha hn htk hm
  | byt b => exact .byt b
  | set e => exact .set (s _ _ e)
  | kList e c => exact .kList e c
  | kTuple e c => exact .kTuple e c
  | kDict e c => exact .kDict e c
  | fTuple e => exact .fTuple (s _ _ e)
  | fDict e => exact .fDict (s _ _ e)
theorem Kd.same {K : PySem.W.Frag} {H H' : Hp} {x : V} (h : Kd K H x) (s : Same H H') : Kd K H' x := by
  obtain ⟨ty, h1, h2⟩ := h
  exact ⟨ty, tySame h1 s, h2⟩
/-- a value that is no list -/
def NoL (K : PySem.W.Frag) (H : Hp) (x : V) : Prop := ∃ ty, TyX K H x ty ∧ PySem.W.kitOne K ty (.type "list") = some false
theorem NoL.same {K : PySem.W.Frag} {H H' : Hp} {x : V} (h : NoL K H x) (s : Same H H') : NoL K H' x := by
  obtain ⟨ty, h1, h2⟩ := h
  exact ⟨ty, tySame h1 s, h2⟩
/-- an error of the class at C with one field -/
def Bad (C : Addr) (f : Str) (iv : V) (H : Hp) (E : XK) : Prop := ∀ dd H', Same H H' → H' dd = some (.xd [(f, iv)]) → H dd = none → E (.ref C) (some dd) H'
theorem Bad.same {C : Addr} {f : Str} {iv : V} {H H' : Hp} {E : XK} (h : Bad C f iv H E) (s : Same H H') : Bad C f iv H' E := fun dd H2 s2 e n => h dd H2 (s.trans s2) e (s.free n)
theorem Bad.mk {K : PySem.W.Frag} {C : Addr} {f : Str} {iv : V} {H : Hp} {E : XK} (h : Bad C f iv H E) : ([iv] : List V).length ≤ 1000 ∧ ∀ a, H a = none → QX.spExI K C f (.ref a :: ([iv] ++ [])) (upd H a (exo a C none))
      (fun v H2 => v = .non ∧ ∃ (d : Addr) (fs : List (Str × V)), H2 a = some (exo a C (some d)) ∧ H2 d = some (exd d fs) ∧ H d = none ∧ E (.ref C) (some d) (upd (del H2 a) d (.xd fs))) (fun _ _ _ => False) :=
  QX.mkO_of fun d hd => h d _ (same_new hd) upd_same hd
section
variable {P : Program} {w : World} {K : PySem.W.Frag} {mg : Str → Option Value} {base : Heap}
theorem Kd.str {H : Hp} (t : Str) : Kd K H (.str t) := ⟨_, .base (.str t), kit_str_str⟩
theorem Kd.non {H : Hp} : Kd K H .non := ⟨_, .base .non, kit_ty (show _ = some false by decide +kernel)⟩
theorem Kd.int {H : Hp} (i : Int) : Kd K H (.int i) := ⟨_, .base (.int i), kit_ty (show _ = some false by decide +kernel)⟩
theorem Kd.bl {H : Hp} (b : Bool) : Kd K H (.bl b) := ⟨_, .base (.bl b), kit_ty (show _ = some false by decide +kernel)⟩
theorem Kd.lst {H : Hp} {a : Addr} {xs : List V} (h : H a = some (.lst xs)) : Kd K H (.ref a) := ⟨_, .base (.lst h), kit_ty (show _ = some false by decide +kernel)⟩
theorem Kd.tup {H : Hp} {a : Addr} {xs : List V} (h : H a = some (.tup xs)) : Kd K H (.ref a) := ⟨_, .base (.tup h), kit_ty (show _ = some false by decide +kernel)⟩
theorem NoL.str {H : Hp} (t : Str) : NoL K H (.str t) := ⟨_, .base (.str t), kit_ty (show _ = some false by decide +kernel)⟩
theorem NoL.non {H : Hp} : NoL K H .non := ⟨_, .base .non, kit_ty (show _ = some false by decide +kernel)⟩
theorem NoL.int {H : Hp} (i : Int) : NoL K H (.int i) := ⟨_, .base (.int i), kit_ty (show _ = some false by decide +kernel)⟩
theorem NoL.bl {H : Hp} (b : Bool) : NoL K H (.bl b) := ⟨_, .base (.bl b), kit_ty (show _ = some false by decide +kernel)⟩
theorem NoL.tup {H : Hp} {a : Addr} {xs : List V} (h : H a = some (.tup xs)) : NoL K H (.ref a) := ⟨_, .base (.tup h), kit_ty (show _ = some false by decide +kernel)⟩
def spIsListA (K : PySem.W.Frag) : Sp := fun vs H Q _ => ∃ (x : V) (lo hi : Int), vs = [x, .int lo, .int hi] ∧
  ((NoL K H x ∧ Q (.bl false) H) ∨ ∃ (a : Addr) (xs : List V), x = .ref a ∧ H a = some (.lst xs) ∧ Q (.bl (decide (lo ≤ (xs.length : Int) ∧ (xs.length : Int) ≤ hi))) H)
theorem ok_is_list (X : TX K mg) : FnOk P w K mg base CX0 1 X.d_is_list.a X.d_is_list.fd ["x", "least", "most"] (spIsListA K) := by
  have nd := sc_is_list.nd
  refine X.d_is_list.F.ok sc_is_list (fun vs H Q E h => ?_) (fun cdv A outer s H vs Q E hr h => ?_)
  · obtain ⟨x, lo, hi, rfl, _⟩ := h
    rfl
  · obtain ⟨x, lo, hi, rfl, h⟩ := h
    refine ⟨_, (pss_one (ps_ret (pe_and (pe_callB (QB.call_isiK K) (by rfl) X.n_isinstance QB.bo_isinstance (pa_cons (pv 0) (pa_cons (pe_bltn (v := .ty "list") (by rfl) X.n_list QB.bo_list rfl) pa_nil))) (pe_one (pe_chain op_le op_le (pv 1) (pe_callB (QB.call_lenK K) (by rfl) X.n_len PySem.boot_len (pa_cons (pv 0) pa_nil)) (pv 2)))))), ?_⟩
    try dsimp only [Cx.nox, Cx.wish, cxOf]
    rcases h with ⟨⟨ty, h1, h2⟩, k⟩ | ⟨a, xs, rfl, ha, k⟩
    · refine ⟨_, rfl, _, _, _, _, false, rfl, .ty "list", h1, h2, false, rfl, ?_⟩
      exact iteF k
    refine ⟨_, rfl, _, _, _, _, true, rfl, .ty "list", .base (.lst ha), kit_list_list, true, rfl, ?_⟩
    refine iteT ?_
    refine ⟨_, rfl, _, rfl, _, _, rfl, .inl (SqL.of ha), _, _, rfl, rfl, _, rfl, ?_⟩
    by_cases h1 : lo ≤ (xs.length : Int)
    · rw [if_pos (decide_eq_true h1)]
      refine ⟨_, rfl, _, _, rfl, rfl, ?_⟩
      have e : decide (lo ≤ (xs.length : Int) ∧ (xs.length : Int) ≤ hi) = decide ((xs.length : Int) ≤ hi) := by simp [h1]
      rw [e] at k
      exact k
    · rw [if_neg (by simpa using h1)]
      have e : decide (lo ≤ (xs.length : Int) ∧ (xs.length : Int) ≤ hi) = false := by simp [h1]
      rw [e] at k
      exact k
def spIsNameA (K : PySem.W.Frag) : Sp := fun vs H Q _ => ∃ x : V, vs = [x] ∧ Kd K H x ∧ (∀ t, x = .str t → t.length ≤ 10000) ∧ ∀ H', Same H H' → Q (.bl (isNameV x)) H'
theorem ok_is_name (X : TX K mg) : FnOk P w K mg base CX0 1 X.d_is_name.a X.d_is_name.fd ["x"] (spIsNameA K) := by
  have nd := sc_is_name.nd
  refine X.d_is_name.F.ok sc_is_name (fun vs H Q E h => ?_) (fun cdv A outer s H vs Q E hr h => ?_)
  · obtain ⟨x, rfl, _⟩ := h
    rfl
  · obtain ⟨x, rfl, ⟨ty, hty, hk⟩, hz, k⟩ := h
    refine ⟨_, (pss_cons (ps_if (PW.pt (pw_or (pt_not (pt_val (pe_callB (QB.call_isiK K) (by rfl) X.n_isinstance QB.bo_isinstance (pa_cons (pv 0) (pa_cons (pe_bltn (v := .ty "str") (by rfl) X.n_str QB.bo_str rfl) pa_nil))))) (pw_or1 (pt_not (pt_chain op_le op_le pe_int (pe_callB call_len_str (by rfl) X.n_len PySem.boot_len (pa_cons (pv 0) pa_nil)) (pe_gc rfl X.c_MOST_LETTERS)))))) (pss_one (ps_ret pe_bl)) pss_nil) (pss_one (ps_ret (pe_callB (QB.cr_allK K rfl) (by rfl) X.n_all QB.bo_all (pa_cons (pe_lc (own := [("letter", 1)]) (g := gName 1) (tt := tYes) rfl nd (pi_str (pv 0)) (blkOk_by (N := ["x", "letter"]) (sc := defScope s_is_name) (by decide +kernel)) (fun _ _ _ _ _ => pg_name (i := 1) nd rfl (Or.inl rfl)) (fun _ _ _ _ _ => pts_nil) (fun _ _ _ _ _ => (pe_cmpR op_in_sign (pv 1) (pe_gc rfl X.c_LETTERS) rfl))) pa_nil))))), ?_⟩
    try dsimp only [Cx.nox, Cx.wish, cxOf]
    refine ⟨_, rfl, _, _, _, _, isS x, rfl, .ty "str", hty, hk, isS x, rfl, ?_⟩
    cases x with
    | str t =>
      refine iteF ?_
      have hz := hz t rfl
      have k : ∀ H', Same H H' → Q (.bl (nameB t)) H' := k
      unfold nameB at k
      refine ⟨_, rfl, t, rfl, sz_le (by omega), _, _, rfl, rfl, _, rfl, ?_⟩
      by_cases h1 : 1 ≤ t.length
      case neg =>
        rw [if_neg (by rw [decide_eq_true_eq]; omega)]
        refine ⟨_, rfl, iteT ?_⟩
        have e := k H (Same.refl H)
        rw [decide_eq_false h1] at e
        exact e
      rw [if_pos (decide_eq_true (by omega))]
      rw [decide_eq_true h1] at k
      refine ⟨_, _, rfl, rfl, _, rfl, ?_⟩
      by_cases h8 : t.length ≤ 8
      case neg =>
        rw [decide_eq_false (by omega)]
        refine iteT ?_
        have e := k H (Same.refl H)
        rw [decide_eq_false h8] at e
        exact e
      rw [decide_eq_true (by omega : (t.length : Int) ≤ 8)]
      refine iteF ?_
      rw [decide_eq_true h8] at k
      refine ⟨_, rfl, t, rfl, fun D hD => ?_⟩
      refine lc_map walk_str hD (by have e : t.cps.size = t.length := rfl; omega) (fun _ _ => True.intro) (fun i => .bl (((t.cps.toList[i]?).map fun c => decide (c ∈ letters.cps.toList)).getD false)) ?_ ?_
      · rintro i x H1 H2 kk hi s1 ⟨rfl, c, hc, rfl⟩ hk
        refine ⟨rfl, _, rfl, c, letters, rfl, rfl, ?_⟩
        have hc2 : t.cps.toList[i]? = some c := by simpa using hc
        have e := hk _ (Same.refl H2)
        rw [hc2] at e
        exact e
      · intro H1 s1 e
        have e0 : t.cps.size = t.cps.toList.length := rfl
        rw [e0, range_map_get _ t.cps.toList (fun c => .bl (decide (c ∈ letters.cps.toList))) (fun i x hx => by rw [hx]; rfl)] at e
        refine ⟨_, t.cps.toList.map fun c => decide (c ∈ letters.cps.toList), rfl, SqL.of (by rw [e, List.map_map]; rfl), ?_⟩
        have e2 := k H1 s1
        rw [List.all_map]
        exact e2
    | _ => exact iteT (k H (Same.refl H))
def spIsTagA (K : PySem.W.Frag) : Sp := fun vs H Q _ => ∃ (a : Addr) (tags : List Str) (x : V), vs = [.ref a, x] ∧ WordAt H a tags ∧ Kd K H x ∧ Q (.bl (valTag tags x)) H
theorem ok_is_tag (X : TX K mg) : FnOk P w K mg base CX0 1 X.d_is_tag.a X.d_is_tag.fd ["tags", "x"] (spIsTagA K) := by
  have nd := sc_is_tag.nd
  refine X.d_is_tag.F.ok sc_is_tag (fun vs H Q E h => ?_) (fun cdv A outer s H vs Q E hr h => ?_)
  · obtain ⟨a, tags, x, rfl, _⟩ := h
    rfl
  · obtain ⟨a, tags, x, rfl, ha, ⟨ty, hty, hk⟩, k⟩ := h
    refine ⟨_, (pss_one (ps_ret (pe_and (pe_callB (QB.call_isiK K) (by rfl) X.n_isinstance QB.bo_isinstance (pa_cons (pv 1) (pa_cons (pe_bltn (v := .ty "str") (by rfl) X.n_str QB.bo_str rfl) pa_nil))) (pe_one (pe_cmpR (QB.op_inK K) (pv 1) (pv 0) rfl))))), ?_⟩
    try dsimp only [Cx.nox, Cx.wish, cxOf]
    refine ⟨_, rfl, _, _, _, _, isS x, rfl, .ty "str", hty, hk, isS x, rfl, ?_⟩
    cases x with
    | str t =>
      refine iteT ?_
      refine ⟨_, rfl, _, rfl, a, vS tags, rfl, .inl (SqL.of ha), rfl, vS_flat, ?_⟩
      show Q (.bl (if false = true then !inV (.str t) (vS tags) else inV (.str t) (vS tags))) H
      rw [if_neg Bool.false_ne_true, inV_word]
      exact k
    | _ => exact iteF k
/-- whether the i-th of some things is no new name -/
def badAt (xs : List V) (i : Nat) : Bool := match xs[i]? with
  | some v => !isNameV v || inV v (xs.take i)
  | none => false
theorem names_before {xs : List V} : ∀ {i : Nat}, i ≤ xs.length → (∀ j < i, badAt xs j = false) → ∀ v ∈ xs.take i, isNameV v = true := fun {i} hi h v hv => by
  obtain ⟨j, hj, e⟩ := List.mem_iff_getElem.mp hv
  rw [List.length_take] at hj
  have hj1 : j < i := by omega
  have hb := h j hj1
  unfold badAt at hb
  rw [List.getElem_take] at e
  rw [List.getElem?_eq_getElem (by omega), e] at hb
  dsimp only at hb
  rw [Bool.or_eq_false_iff] at hb
  simpa using hb.1
theorem flat_names {xs : List V} (h : ∀ v ∈ xs, isNameV v = true) : xs.all flatV = true := by
  rw [List.all_eq_true]
  intro v hv
  have := h v hv
  cases v with
  | str t => rfl
  | _ => cases this
def ShortT (xs : List V) : Prop := ∀ t, V.str t ∈ xs → t.length ≤ 10000
def spCheckTagsX (K : PySem.W.Frag) (C : Addr) : Sp := fun vs H Q E => ∃ x : V, vs = [x] ∧ ((NoL K H x ∧ Bad C "index" .non H E) ∨ ∃ (a : Addr) (xs : List V), x = .ref a ∧ H a = some (.lst xs) ∧
  ((¬ (1 ≤ xs.length ∧ xs.length ≤ 6) ∧ Bad C "index" .non H E) ∨ (1 ≤ xs.length ∧ xs.length ≤ 6 ∧ (∀ v ∈ xs, Kd K H v) ∧ ShortT xs ∧
    ((∃ i, i < xs.length ∧ badAt xs i = true ∧ (∀ j < i, badAt xs j = false) ∧ Bad C "index" (.int (i : Int)) H E) ∨ ((∀ i < xs.length, badAt xs i = false) ∧ ∀ H', Same H H' → Q .non H')))))
theorem okx_check_tags (X : TX K mg) : FnOk P w K mg base (L2.CX P w) 3 X.d_check_tags.a X.d_check_tags.fd ["tags"] (spCheckTagsX K X.e_InvalidTags) := by
  have nd := sc_check_tags.nd
  refine X.d_check_tags.F.okX sc_check_tags (fun vs H Q E h => ?_) (fun cdv A outer s H vs Q E hr h => ?_)
  · obtain ⟨x, rfl, _⟩ := h
    rfl
  · obtain ⟨x, rfl, h⟩ := h
    refine ⟨_, (pss_cons (ps_if (pt_not (pt_val (pe_call (ok_is_list X) (hr.mono (by decide)) rfl X.d_is_list.mg X.d_is_list.F.kp X.d_is_list.b .nil pass0 (pa_cons (pv 0) (pa_cons pe_int (pa_cons (pe_gc rfl X.c_MOST_TAGS) pa_nil)))))) (pss_one (ps_raise rfl (takes_of rfl rfl rfl rfl) (pmk_oex X.xt_InvalidTags.oex X.xt_InvalidTags.iC X.xt_InvalidTags.tI (ok_InvalidTags___init__ X) (hr.mono (by decide)) X.d_InvalidTags___init__.b .nil pass0 rfl X.me_InvalidTags (pa_cons pe_non pa_nil)))) pss_nil) (pss_one (ps_for (passes_of rfl) rfl (QB.pi_enumK K (by rfl) X.n_enumerate (pa_cons (pv 0) pa_nil)) (pg_tup (by rfl) (pgs_cons (pg_name (i := 1) nd rfl (Or.inl rfl)) (pgs_cons (pg_name (i := 2) nd rfl (Or.inl rfl)) (pgs_nil)))) (pss_one (ps_if (PW.pt (pw_or (pt_not (pt_val (pe_call (ok_is_name X) (hr.mono (by decide)) rfl X.d_is_name.mg X.d_is_name.F.kp X.d_is_name.b .nil pass0 (pa_cons (pv 2) pa_nil)))) (pw_or1 (pt_cmpR (QB.op_inK K) (pv 2) (pe_slice (QB.sl_listK K) (pv 0) po_none (po_some (pv 1))) rfl)))) (pss_one (ps_raise rfl (takes_of rfl rfl rfl rfl) (pmk_oex X.xt_InvalidTags.oex X.xt_InvalidTags.iC X.xt_InvalidTags.tI (ok_InvalidTags___init__ X) (hr.mono (by decide)) X.d_InvalidTags___init__.b .nil pass0 rfl X.me_InvalidTags (pa_cons (pv 1) pa_nil)))) pss_nil))))), ?_⟩
    try dsimp only [Cx.nox, Cx.wish, cxOf]
    rcases h with ⟨hx, hb⟩ | ⟨a, xs, rfl, ha, h⟩
    · refine ⟨_, rfl, x, _, _, rfl, .inl ⟨hx, ?_⟩⟩
      refine ⟨_, rfl, ?_⟩
      refine iteT ?_
      exact hb.mk (K := K)
    rcases h with ⟨hn, hb⟩ | ⟨h1, h6, hkd, hst, h⟩
    · refine ⟨_, rfl, _, _, _, rfl, .inr ⟨a, xs, rfl, ha, ?_⟩⟩
      rw [decide_eq_false (by omega)]
      refine ⟨_, rfl, ?_⟩
      refine iteT ?_
      exact hb.mk (K := K)
    refine ⟨_, rfl, _, _, _, rfl, .inr ⟨a, xs, rfl, ha, ?_⟩⟩
    rw [decide_eq_true (by omega)]
    refine ⟨_, rfl, ?_⟩
    refine iteF ?_
    refine ⟨_, rfl, _, _, rfl, SqL.of ha, ?_⟩
    refine for_it (walk_enum (K := K) (a := a) (xs := xs)) (fun i σ H' => ∃ v1 v2, σ = [some (.ref a), v1, v2] ∧ Same H H' ∧ ∀ j < i, badAt xs j = false) ⟨none, none, rfl, Same.refl H, fun j hj => by omega⟩ (fun i σ H' _ ⟨_, _, _, s1, _⟩ => SqL.of (s1 _ _ ha)) ?_ ?_
    · rintro i v σ H1 H2 hi ⟨v1, v2, rfl, s1, hno⟩ ⟨tp, x1, x2, rfl, ntp, rfl, e1, e2⟩
      have e1 : some (V.int (i : Int)) = some x1 := e1
      have e2 : xs[i]? = some x2 := e2
      cases e1
      have hxm := List.mem_of_getElem? e2
      have s2 := Same.new s1 (o := .tup [.int (i : Int), x2]) ntp
      refine ⟨tp, _, rfl, SqT.of upd_same, rfl, _, _, rfl, _, _, rfl, rfl, ?_⟩
      refine ⟨_, rfl, x2, rfl, (hkd x2 hxm).same s2, fun t ht => hst t (ht ▸ hxm), fun H3 s3 => ⟨_, rfl, ?_⟩⟩
      have s4 := s2.trans s3
      have flat := flat_names (names_before (by omega) hno)
      have hbe : badAt xs i = (!isNameV x2 || inV x2 (xs.take i)) := by
        unfold badAt
        rw [e2]
      have dec : ∀ b : Bool, badAt xs i = b → (b = true → Bad X.e_InvalidTags "index" (.int (i : Int)) H E) := fun b hb ht => by
        rcases h with ⟨i', hi', hbi, hbj, hbad⟩ | ⟨hall, _⟩
        · have : i' = i := by
            rcases Nat.lt_trichotomy i' i with q | q | q
            · rw [hno i' q] at hbi
              cases hbi
            · exact q
            · rw [hbj i q] at hb
              rw [← hb] at ht
              cases ht
          subst this
          exact hbad
        · rw [hall i hi] at hb
          rw [← hb] at ht
          cases ht
      cases hn : isNameV x2 with
      | false =>
        refine iteT ?_
        rw [hn] at hbe
        exact ⟨_, rfl, ((dec true hbe rfl).same s4).mk (K := K)⟩
      | true =>
        refine iteF ?_
        rw [hn] at hbe
        refine ⟨_, rfl, _, rfl, _, rfl, _, rfl, a, _, rfl, SqL.of (s4 _ _ ha), fun q hq => ?_⟩
        rw [cut_take]
        have hfx : flatV x2 = true := by
          cases x2 with
          | str t => rfl
          | _ => cases hn
        refine ⟨q, _, rfl, .inl (SqL.of upd_same), hfx, flat, _, rfl, ?_⟩
        rw [if_neg Bool.false_ne_true]
        have hbe : badAt xs i = inV x2 (xs.take i) := hbe
        cases hv : inV x2 (xs.take i) with
        | true =>
          rw [hv] at hbe
          refine iteT ?_
          exact ⟨_, rfl, ((dec true hbe rfl).same (Same.new s4 hq)).mk (K := K)⟩
        | false =>
          rw [hv] at hbe
          refine iteF ⟨_, _, rfl, Same.new s4 hq, fun j hj => ?_⟩
          rcases Nat.lt_or_ge j i with z | z
          · exact hno j z
          · have : j = i := by omega
            subst this
            exact hbe
    · rintro σ H1 ⟨v1, v2, rfl, s1, hno⟩
      rcases h with ⟨i', hi', hbi, _⟩ | ⟨_, k⟩
      · rw [hno i' hi'] at hbi
        cases hbi
      · exact k H1 s1
end
end Law
end

section
set_option Elab.async false
set_option linter.all false
set_option maxRecDepth 100000
set_option maxHeartbeats 4000000
namespace Law
open PySem PySem.Spec PyProof.Rows L2 LamX QB QM
/-- tags that are refused, and what the error tells -/
def WrongT (K : PySem.W.Frag) (H : Hp) (x iv : V) : Prop := (NoL K H x ∧ iv = .non) ∨ ∃ (a : Addr) (xs : List V), x = .ref a ∧ H a = some (.lst xs) ∧
  ((¬ (1 ≤ xs.length ∧ xs.length ≤ 6) ∧ iv = .non) ∨ (1 ≤ xs.length ∧ xs.length ≤ 6 ∧ (∀ v ∈ xs, Kd K H v) ∧ ShortT xs ∧ ∃ i, i < xs.length ∧ badAt xs i = true ∧ (∀ j < i, badAt xs j = false) ∧ iv = .int (i : Int)))
/-- a word that is refused -/
def WrongW (K : PySem.W.Frag) (H : Hp) (tags : Word) (most : Int) (x iv : V) : Prop := (NoL K H x ∧ iv = .non) ∨ ∃ (a : Addr) (xs : List V), x = .ref a ∧ H a = some (.lst xs) ∧
  ((most < xs.length ∧ iv = .non) ∨ ((xs.length : Int) ≤ most ∧ xs.length ≤ 100000 ∧ (∀ v ∈ xs, Kd K H v) ∧ ∃ (i : Nat) (y : V), xs[i]? = some y ∧ valTag tags y = false ∧ (∀ (j : Nat) (z : V), j < i → xs[j]? = some z → valTag tags z = true) ∧ iv = .int (i : Int)))
theorem WrongT.same {K : PySem.W.Frag} {H H' : Hp} {x iv : V} (h : WrongT K H x iv) (s : Same H H') : WrongT K H' x iv := by
  rcases h with ⟨h1, h2⟩ | ⟨a, xs, h1, h2, h3⟩
  · exact .inl ⟨h1.same s, h2⟩
  · refine .inr ⟨a, xs, h1, s _ _ h2, ?_⟩
    rcases h3 with h3 | ⟨h3, h4, h5, h6⟩
    · exact .inl h3
    · exact .inr ⟨h3, h4, fun v hv => (h5 v hv).same s, h6⟩
theorem WrongW.same {K : PySem.W.Frag} {H H' : Hp} {tags : Word} {most : Int} {x iv : V} (h : WrongW K H tags most x iv) (s : Same H H') : WrongW K H' tags most x iv := by
  rcases h with ⟨h1, h2⟩ | ⟨a, xs, h1, h2, h3⟩
  · exact .inl ⟨h1.same s, h2⟩
  · refine .inr ⟨a, xs, h1, s _ _ h2, ?_⟩
    rcases h3 with h3 | ⟨h3, h4, h5, h6⟩
    · exact .inl h3
    · exact .inr ⟨h3, h4, fun v hv => (h5 v hv).same s, h6⟩
theorem badAt_words {tags : Word} (to : TagsOk tags) : ∀ i < (vS tags).length, badAt (vS tags) i = false := fun i hi => by
  rw [vS_len] at hi
  have e : (vS tags)[i]? = some (.str (tags[i]'hi)) := vS_get (List.getElem?_eq_getElem hi)
  unfold badAt
  rw [e]
  have hn : isNameV (.str (tags[i]'hi)) = true := nameB_ok (to.names _ (List.getElem_mem hi))
  dsimp only
  rw [hn, Bool.not_true, Bool.false_or, vS_take, inV_word]
  refine decide_eq_false fun hm => ?_
  obtain ⟨j, hj, e2⟩ := List.mem_iff_getElem.mp hm
  rw [List.length_take] at hj
  rw [List.getElem_take] at e2
  have := (List.getElem_inj to.nd).mp e2
  omega
section
variable {P : Program} {w : World} {K : PySem.W.Frag} {mg : Str → Option Value} {base : Heap}
theorem kd_words {H : Hp} {wd : Word} : ∀ v ∈ vS wd, Kd K H v := fun v hv => by
  obtain ⟨t, _, rfl⟩ := List.mem_map.mp hv
  exact Kd.str t
theorem tags_in {H : Hp} {x : V} {C : Addr} {Q : VK} {E : XK} (h : (∃ iv, WrongT K H x iv ∧ Bad C "index" iv H E) ∨ ∃ (a : Addr) (tags : Word), x = .ref a ∧ WordAt H a tags ∧ TagsOk tags ∧ ∀ H', Same H H' → Q .non H') : spCheckTagsX K C [x] H Q E := by
  refine ⟨x, rfl, ?_⟩
  rcases h with ⟨iv, h, hb⟩ | ⟨a, tags, rfl, ha, to, k⟩
  · rcases h with ⟨h1, rfl⟩ | ⟨a, xs, rfl, h2, h3⟩
    · exact .inl ⟨h1, hb⟩
    · refine .inr ⟨a, xs, rfl, h2, ?_⟩
      rcases h3 with ⟨h3, rfl⟩ | ⟨h3, h4, h5, h6, i, i1, i2, i3, rfl⟩
      · exact .inl ⟨h3, hb⟩
      · exact .inr ⟨h3, h4, h5, h6, .inl ⟨i, i1, i2, i3, hb⟩⟩
  · refine .inr ⟨a, vS tags, rfl, ha, .inr ⟨by rw [vS_len]; exact to.pos, by rw [vS_len]; exact to.len, kd_words, fun t ht => ?_, .inr ⟨badAt_words to, k⟩⟩⟩
    obtain ⟨t', ht', e⟩ := List.mem_map.mp ht
    cases e
    have := (to.names _ ht').len
    omega
def spCheckWordX (K : PySem.W.Frag) (C : Addr) : Sp := fun vs H Q E => ∃ (a : Addr) (tags : Word) (x : V) (most : Int), vs = [.ref a, x, .int most] ∧ WordAt H a tags ∧ 0 ≤ most ∧ most ≤ 100000 ∧ ((∃ iv, WrongW K H tags most x iv ∧ Bad C "index" iv H E) ∨
  ∃ (b : Addr) (wd : Word), x = .ref b ∧ WordAt H b wd ∧ (wd.length : Int) ≤ most ∧ (∀ t ∈ wd, t ∈ tags) ∧ ∀ H', Same H H' → Q .non H')
theorem okx_check_word (X : TX K mg) : FnOk P w K mg base (L2.CX P w) 3 X.d_check_word.a X.d_check_word.fd ["tags", "word", "most"] (spCheckWordX K X.e_InvalidSubject) := by
  have nd := sc_check_word.nd
  refine X.d_check_word.F.okX sc_check_word (fun vs H Q E h => ?_) (fun cdv A outer s H vs Q E hr h => ?_)
  · obtain ⟨a, tags, x, most, rfl, _⟩ := h
    rfl
  · obtain ⟨a, tags, x, most, rfl, ha, hm, hm2, h⟩ := h
    refine ⟨_, (pss_cons (ps_if (pt_not (pt_val (pe_call (ok_is_list X) (hr.mono (by decide)) rfl X.d_is_list.mg X.d_is_list.F.kp X.d_is_list.b .nil pass0 (pa_cons (pv 1) (pa_cons pe_int (pa_cons (pv 2) pa_nil)))))) (pss_one (ps_raise rfl (takes_of rfl rfl rfl rfl) (pmk_oex X.xt_InvalidSubject.oex X.xt_InvalidSubject.iC X.xt_InvalidSubject.tI (ok_InvalidSubject___init__ X) (hr.mono (by decide)) X.d_InvalidSubject___init__.b .nil pass0 rfl X.me_InvalidSubject (pa_cons pe_non pa_nil)))) pss_nil) (pss_one (ps_for (passes_of rfl) rfl (QB.pi_enumK K (by rfl) X.n_enumerate (pa_cons (pv 1) pa_nil)) (pg_tup (by rfl) (pgs_cons (pg_name (i := 3) nd rfl (Or.inl rfl)) (pgs_cons (pg_name (i := 4) nd rfl (Or.inl rfl)) (pgs_nil)))) (pss_one (ps_if (pt_not (pt_val (pe_call (ok_is_tag X) (hr.mono (by decide)) rfl X.d_is_tag.mg X.d_is_tag.F.kp X.d_is_tag.b .nil pass0 (pa_cons (pv 0) (pa_cons (pv 4) pa_nil))))) (pss_one (ps_raise rfl (takes_of rfl rfl rfl rfl) (pmk_oex X.xt_InvalidSubject.oex X.xt_InvalidSubject.iC X.xt_InvalidSubject.tI (ok_InvalidSubject___init__ X) (hr.mono (by decide)) X.d_InvalidSubject___init__.b .nil pass0 rfl X.me_InvalidSubject (pa_cons (pv 3) pa_nil)))) pss_nil))))), ?_⟩
    try dsimp only [Cx.nox, Cx.wish, cxOf]
    have key : (NoL K H x ∧ Bad X.e_InvalidSubject "index" .non H E) ∨ (∃ (b : Addr) (xs : List V), x = .ref b ∧ H b = some (.lst xs) ∧ most < xs.length ∧ Bad X.e_InvalidSubject "index" .non H E) ∨
        ∃ (b : Addr) (xs : List V), x = .ref b ∧ H b = some (.lst xs) ∧ (xs.length : Int) ≤ most ∧ (∀ v ∈ xs, Kd K H v) ∧
          (∀ (i : Nat) (y : V), xs[i]? = some y → valTag tags y = false → (∀ (j : Nat) (z : V), j < i → xs[j]? = some z → valTag tags z = true) → Bad X.e_InvalidSubject "index" (.int (i : Int)) H E) ∧
          ((∀ (j : Nat) (z : V), xs[j]? = some z → valTag tags z = true) → ∀ H', Same H H' → Q .non H') := by
      rcases h with ⟨iv, h, hb⟩ | ⟨b, wd, ex, hw, hl, hin, k⟩
      · rcases h with ⟨h1, rfl⟩ | ⟨b, xs, ex, h2, h3⟩
        · exact .inl ⟨h1, hb⟩
        rcases h3 with ⟨h3, rfl⟩ | ⟨h3, h4, h5, i, y, i1, i2, i3, rfl⟩
        · exact .inr (.inl ⟨b, xs, ex, h2, h3, hb⟩)
        · refine .inr (.inr ⟨b, xs, ex, h2, h3, h5, fun i' y' e1 e2 e3 => ?_, fun hall => ?_⟩)
          · have : i' = i := by
              rcases Nat.lt_trichotomy i' i with q | q | q
              · rw [i3 i' y' q e1] at e2
                cases e2
              · exact q
              · rw [e3 i y q i1] at i2
                cases i2
            subst this
            exact hb
          · rw [hall i y i1] at i2
            cases i2
      · refine .inr (.inr ⟨b, vS wd, ex, hw, by rw [vS_len]; exact hl, kd_words, fun i y e1 e2 e3 => ?_, fun _ => k⟩)
        exfalso
        obtain ⟨t, ht, rfl⟩ := List.mem_map.mp (List.mem_of_getElem? e1)
        rw [show valTag tags (.str t) = decide (t ∈ tags) from rfl, decide_eq_true (hin t ht)] at e2
        cases e2
    clear h
    rcases key with ⟨h1, hb⟩ | ⟨b, xs, rfl, h2, h3, hb⟩ | ⟨b, xs, rfl, hb, hl, hkd, hbad, hall⟩
    · refine ⟨_, rfl, _, rfl, _, _, _, rfl, .inl ⟨h1, ?_⟩⟩
      refine ⟨_, rfl, iteT ?_⟩
      exact hb.mk (K := K)
    · refine ⟨_, rfl, _, rfl, _, _, _, rfl, .inr ⟨b, xs, rfl, h2, ?_⟩⟩
      rw [decide_eq_false (by omega)]
      refine ⟨_, rfl, iteT ?_⟩
      exact hb.mk (K := K)
    refine ⟨_, rfl, _, rfl, _, _, _, rfl, .inr ⟨b, xs, rfl, hb, ?_⟩⟩
    rw [decide_eq_true (by omega)]
    refine ⟨_, rfl, ?_⟩
    refine iteF ?_
    refine ⟨_, rfl, _, _, rfl, SqL.of hb, ?_⟩
    refine for_it (walk_enum (K := K) (a := b) (xs := xs)) (fun i σ H' => ∃ v3 v4, σ = [some (.ref a), some (.ref b), some (.int most), v3, v4] ∧ Same H H' ∧ ∀ (j : Nat) (z : V), j < i → xs[j]? = some z → valTag tags z = true)
      ⟨none, none, rfl, Same.refl H, fun j z hj => by omega⟩ (fun i σ H' _ ⟨_, _, _, s1, _⟩ => SqL.of (s1 _ _ hb)) ?_ ?_
    · rintro i v σ H1 H2 hi ⟨v3, v4, rfl, s1, hno⟩ ⟨tp, x1, x2, rfl, ntp, rfl, e1, e2⟩
      have e1 : some (V.int (i : Int)) = some x1 := e1
      have e2 : xs[i]? = some x2 := e2
      cases e1
      have s2 := Same.new s1 (o := .tup [.int (i : Int), x2]) ntp
      refine ⟨tp, _, rfl, SqT.of upd_same, rfl, _, _, rfl, _, _, rfl, rfl, ?_⟩
      refine ⟨_, rfl, _, rfl, a, tags, x2, rfl, Same.word s2 ha, (hkd x2 (List.mem_of_getElem? e2)).same s2, ?_⟩
      refine ⟨_, rfl, ?_⟩
      cases hv : valTag tags x2 with
      | false =>
        refine iteT ?_
        exact ⟨_, rfl, ((hbad i x2 e2 hv hno).same s2).mk (K := K)⟩
      | true =>
        refine iteF ⟨_, _, rfl, s2, fun j z hj hz2 => ?_⟩
        rcases Nat.lt_or_ge j i with q | q
        · exact hno j z q hz2
        · have : j = i := by omega
          subst this
          rw [e2] at hz2
          cases hz2
          exact hv
    · rintro σ H1 ⟨v3, v4, rfl, s1, hno⟩
      refine hall (fun j z hz2 => hno j z ?_ hz2) H1 s1
      exact (List.getElem?_eq_some_iff.mp hz2).1
end
end Law
end

section
set_option Elab.async false
set_option linter.all false
set_option maxRecDepth 100000
set_option maxHeartbeats 4000000
namespace Law
open PySem PySem.Spec PyProof.Rows L2 LamX QB QM
/-- the text of a word -/
def writ (wd : Word) : Str := if wd = [] then "-" else Txt.join " " wd
/-- the word of a text, if it tells one -/
def rd (tags : Word) (most : Nat) (t : Str) : Option Word :=
  if t = "-" then some [] else if (Txt.split t " ").length ≤ most ∧ ∀ u ∈ Txt.split t " ", u ∈ tags then some (Txt.split t " ") else none
def ShortW (wd : Word) : Prop := (wd.map (·.length)).sum + wd.length ≤ 100000
section
variable {P : Program} {w : World} {K : PySem.W.Frag} {mg : Str → Option Value} {base : Heap}
def spWritten : Sp := fun vs H Q _ => ∃ (a : Addr) (wd : Word), vs = [.ref a] ∧ WordAt H a wd ∧ ShortW wd ∧ Q (.str (writ wd)) H
theorem ok_written (X : TX K mg) : FnOk P w K mg base CX0 1 X.d_written.a X.d_written.fd ["subject"] spWritten := by
  have nd := sc_written.nd
  refine X.d_written.F.ok sc_written (fun vs H Q E h => ?_) (fun cdv A outer s H vs Q E hr h => ?_)
  · obtain ⟨a, wd, rfl, _⟩ := h
    rfl
  · obtain ⟨a, wd, rfl, ha, hs, k⟩ := h
    refine ⟨_, (pss_one (ps_ret (pe_ifExp (QN.pt_tru K (pv 0)) (pe_join pe_str (pv 0)) (pe_gc rfl X.c_NO_TAGS)))), ?_⟩
    try dsimp only [Cx.nox, Cx.wish, cxOf]
    unfold ShortW at hs
    unfold writ at k
    cases wd with
    | nil =>
      refine ⟨_, rfl, false, .inl ⟨_, SqL.of ha, rfl⟩, ?_⟩
      rw [if_pos rfl] at k
      exact iteF k
    | cons u wd =>
      refine ⟨_, rfl, true, .inl ⟨_, SqL.of ha, rfl⟩, ?_⟩
      rw [if_neg (fun z => nomatch z)] at k
      refine iteT ?_
      refine ⟨⟨_, rfl⟩, _, rfl, _, a, u :: wd, rfl, rfl, .inl (SqL.of ha), ?_, k⟩
      show _ + _ * 1 ≤ 16777216
      omega
def spReadWord : Sp := fun vs H Q _ => ∃ (a : Addr) (tags : Word) (t : Str) (most : Nat), vs = [.ref a, .str t, .int (most : Int)] ∧ WordAt H a tags ∧ t.length ≤ 10000 ∧
  ∀ (v : V) (H' : Hp), Same H H' → ((v = .non ∧ rd tags most t = none) ∨ ∃ (p : Addr) (wd : Word), v = .ref p ∧ H p = none ∧ WordAt H' p wd ∧ rd tags most t = some wd) → Q v H'
theorem ok_read_word (X : TX K mg) : FnOk P w K mg base CX0 1 X.d_read_word.a X.d_read_word.fd ["tags", "text", "most"] spReadWord := by
  have nd := sc_read_word.nd
  refine X.d_read_word.F.ok sc_read_word (fun vs H Q E h => ?_) (fun cdv A outer s H vs Q E hr h => ?_)
  · obtain ⟨a, tags, t, most, rfl, _⟩ := h
    rfl
  · obtain ⟨a, tags, t, most, rfl, ha, hz, k⟩ := h
    refine ⟨_, (pss_cons (ps_if (pt_cmpR op_eq (pv 1) (pe_gc rfl X.c_NO_TAGS) (nomark _)) (pss_one (ps_ret (pe_lst pa_nil))) pss_nil) (pss_cons (ps_set (i := 3) nd rfl (Or.inl rfl) (pe_split (pv 1) pe_str)) (pss_cons (ps_if (PW.pt (pw_or (pt_cmpR op_gt (pe_callB (QB.call_lenK K) (by rfl) X.n_len PySem.boot_len (pa_cons (pv 3) pa_nil)) (pv 2) (nomark _)) (pw_or1 (pt_not (pt_val (pe_callB (QB.cr_allK K rfl) (by rfl) X.n_all QB.bo_all (pa_cons (pe_lc (own := [("tag", 4)]) (g := gName 4) (tt := tYes) rfl nd (QB.pi_listK K (pv 3)) (blkOk_by (N := ["tags", "text", "most", "word", "tag"]) (sc := defScope s_read_word) (by decide +kernel)) (fun _ _ _ _ _ => pg_name (i := 4) nd rfl (Or.inl rfl)) (fun _ _ _ _ _ => pts_nil) (fun _ _ _ _ _ => (pe_cmpR (QB.op_inK K) (pv 4) (pv 0) rfl))) pa_nil))))))) (pss_one (ps_ret pe_non)) pss_nil) (pss_one (ps_ret (pv 3)))))), ?_⟩
    try dsimp only [Cx.nox, Cx.wish, cxOf]
    unfold rd at k
    refine ⟨_, rfl, rfl, _, rfl, ?_⟩
    by_cases hd : t = Str.ofString "-"
    · subst hd
      rw [decide_eq_true rfl]
      refine iteT ?_
      refine ⟨by show 0 ≤ sizeLine; decide, fun p hp => ?_⟩
      exact k _ _ (same_new hp) (.inr ⟨p, [], rfl, hp, upd_same, if_pos rfl⟩)
    rw [decide_eq_false (fun e => hd (V.str.inj e))]
    refine iteF ?_
    have hs := split_le t " "
    refine ⟨_, rfl, ⟨_, rfl⟩, t, _, rfl, rfl, by decide, sz_le (by omega), fun q hq => ?_⟩
    have e1 : (if t = Str.ofString "-" then some [] else if (Txt.split t " ").length ≤ most ∧ ∀ u ∈ Txt.split t " ", u ∈ tags then some (Txt.split t " ") else none) = if (Txt.split t " ").length ≤ most ∧ ∀ u ∈ Txt.split t " ", u ∈ tags then some (Txt.split t " ") else none := if_neg hd
    have k : ∀ (v : V) (H' : Hp), Same H H' → ((v = .non ∧ (if (Txt.split t " ").length ≤ most ∧ ∀ u ∈ Txt.split t " ", u ∈ tags then some (Txt.split t " ") else none) = none) ∨ ∃ (p : Addr) (wd : Word), v = .ref p ∧ H p = none ∧ WordAt H' p wd ∧ (if (Txt.split t " ").length ≤ most ∧ ∀ u ∈ Txt.split t " ", u ∈ tags then some (Txt.split t " ") else none) = some wd) → Q v H' := fun v H' s' h => k v H' s' (by
      have e1 : (if t = "-" then some [] else if (Txt.split t " ").length ≤ most ∧ ∀ u ∈ Txt.split t " ", u ∈ tags then some (Txt.split t " ") else none) = _ := e1
      rw [e1]
      exact h)
    clear e1
    have s1 := same_new (o := .lst ((Txt.split t " ").map V.str)) hq
    have k1 : WordAt (upd H q (.lst ((Txt.split t " ").map V.str))) q (Txt.split t " ") := upd_same
    have hlw : (Txt.split t (Str.ofString " ")).length ≤ 10002 := by
      have hs : (Txt.split t (Str.ofString " ")).length ≤ t.length + 2 := hs
      omega
    change tSeq _ _ _ _ (upd H q (.lst ((Txt.split t " ").map V.str)))
    generalize upd H q (.lst ((Txt.split t " ").map V.str)) = H1 at s1 k1 ⊢
    have hlw : (Txt.split t " ").length ≤ 10002 := hlw
    generalize Txt.split t " " = wd at k k1 hlw
    refine ⟨_, rfl, _, _, rfl, .inl (SqL.of k1), _, rfl, _, _, rfl, rfl, _, rfl, ?_⟩
    rw [vS_len]
    by_cases hl : wd.length ≤ most
    case neg =>
      rw [decide_eq_true (by omega)]
      refine iteT ?_
      exact k _ _ s1 (.inl ⟨rfl, if_neg fun z => hl z.1⟩)
    rw [decide_eq_false (by omega)]
    refine iteF ?_
    refine ⟨_, rfl, _, rfl, ⟨_, SqL.of k1⟩, fun D hD => ?_⟩
    refine lc_map (walk_listW (K := K) (a := q) (w := wd)) hD (by omega) (fun H2 s2 => Same.word s2 k1) (fun i => .bl (decide ((wd[i]?).getD "" ∈ tags))) ?_ ?_
    · rintro i x H2 H3 kk hi s2 ⟨y, hy, rfl, rfl⟩ hk
      have e := hk _ (Same.refl H3)
      rw [hy] at e
      refine ⟨rfl, _, rfl, _, rfl, a, vS tags, rfl, .inl (SqL.of (Same.word (s1.trans s2) ha)), rfl, vS_flat, ?_⟩
      rw [if_neg Bool.false_ne_true, inV_word]
      exact e
    · intro H2 s2 e
      rw [range_map_get _ wd (fun t => .bl (decide (t ∈ tags))) (fun i x hx => by rw [hx]; rfl)] at e
      refine ⟨_, wd.map fun t => decide (t ∈ tags), rfl, SqL.of (by rw [e, List.map_map]; rfl), ?_⟩
      rw [List.all_map]
      have s12 := s1.trans s2
      by_cases hin : ∀ u ∈ wd, u ∈ tags
      · rw [show (wd.all (id ∘ fun t => decide (t ∈ tags))) = true from List.all_eq_true.mpr fun t ht => decide_eq_true (hin t ht)]
        refine ⟨_, rfl, iteF ?_⟩
        exact ⟨_, rfl, k _ H2 s12 (.inr ⟨q, wd, rfl, hq, Same.word s2 k1, if_pos ⟨hl, hin⟩⟩)⟩
      · rw [show (wd.all (id ∘ fun t => decide (t ∈ tags))) = false from by
          rw [List.all_eq_false]
          simpa using hin]
        refine ⟨_, rfl, iteT ?_⟩
        exact k _ H2 s12 (.inl ⟨rfl, if_neg fun z => hin z.2⟩)
end
end Law
end

section
set_option Elab.async false
set_option linter.all false
set_option maxRecDepth 100000
set_option maxHeartbeats 4000000
namespace Law
open PySem PySem.Spec PyProof.Rows L2 LamX QB QM
section
variable {P : Program} {w : World} {K : PySem.W.Frag} {mg : Str → Option Value} {base : Heap}
/-- the tags are refused, or right and .. -/
def TagsArg (K : PySem.W.Frag) (C : Addr) (H : Hp) (E : XK) (x : V) (k : Addr → Word → Prop) : Prop := (∃ iv, WrongT K H x iv ∧ Bad C "index" iv H E) ∨ ∃ (a : Addr) (tags : Word), x = .ref a ∧ WordAt H a tags ∧ TagsOk tags ∧ k a tags
def spSubjectText (K : PySem.W.Frag) (CT CS : Addr) : Sp := fun vs H Q E => ∃ x y : V, vs = [x, y] ∧ TagsArg K CT H E x fun a tags => ((∃ iv, WrongW K H tags 200 y iv ∧ Bad CS "index" iv H E) ∨
  ∃ (b : Addr) (wd : Word), y = .ref b ∧ WordAt H b wd ∧ wd.length ≤ 200 ∧ (∀ t ∈ wd, t ∈ tags) ∧ ∀ H', Same H H' → Q (.str (writ wd)) H')
theorem short_in {tags wd : Word} (to : TagsOk tags) (h : ∀ t ∈ wd, t ∈ tags) : (wd.map (·.length)).sum ≤ 8 * wd.length := by
  induction wd with
  | nil => exact Nat.zero_le _
  | cons u wd ih =>
    have h1 := (to.names u (h u List.mem_cons_self)).len
    have h2 := ih fun t ht => h t (List.mem_cons_of_mem _ ht)
    rw [List.map_cons, List.sum_cons, List.length_cons]
    omega
theorem okx_subject_text (X : TX K mg) : FnOk P w K mg base (L2.CX P w) 4 X.d_subject_text.a X.d_subject_text.fd ["tags", "subject"] (spSubjectText K X.e_InvalidTags X.e_InvalidSubject) := by
  have nd := sc_subject_text.nd
  refine X.d_subject_text.F.okX sc_subject_text (fun vs H Q E h => ?_) (fun cdv A outer s H vs Q E hr h => ?_)
  · obtain ⟨x, y, rfl, _⟩ := h
    rfl
  · obtain ⟨x, y, rfl, h⟩ := h
    refine ⟨_, (pss_cons (ps_expr (pe_call (okx_check_tags X) (hr.mono (by decide)) rfl X.d_check_tags.mg X.d_check_tags.F.kp X.d_check_tags.b .nil (passes_call (takes_of rfl rfl rfl rfl) (fun _ _ _ _ h => h)) (pa_cons (pv 0) pa_nil))) (pss_cons (ps_expr (pe_call (okx_check_word X) (hr.mono (by decide)) rfl X.d_check_word.mg X.d_check_word.F.kp X.d_check_word.b .nil (passes_call (takes_of rfl rfl rfl rfl) (fun _ _ _ _ h => h)) (pa_cons (pv 0) (pa_cons (pv 1) (pa_cons (pe_gc rfl X.c_LONGEST_SUBJECT) pa_nil))))) (pss_one (ps_ret (pe_call (ok_written X) (hr.mono (by decide)) rfl X.d_written.mg X.d_written.F.kp X.d_written.b .nil pass0 (pa_cons (pv 1) pa_nil)))))), ?_⟩
    try dsimp only [Cx.nox, Cx.wish, cxOf]
    rcases h with hb | ⟨a, tags, rfl, ha, to, h⟩
    · refine ⟨_, rfl, ?_⟩
      dsimp only [tNil]
      exact tags_in (.inl hb)
    refine ⟨_, rfl, ?_⟩
    dsimp only [tNil]
    refine tags_in (.inr ⟨a, tags, rfl, ha, to, fun H1 s1 => ?_⟩)
    refine ⟨_, rfl, _, rfl, a, tags, y, 200, rfl, Same.word s1 ha, by decide, by decide, ?_⟩
    rcases h with ⟨iv, h1, h2⟩ | ⟨b, wd, rfl, hw, hl, hin, k⟩
    · exact .inl ⟨iv, h1.same s1, h2.same s1⟩
    refine .inr ⟨b, wd, rfl, Same.word s1 hw, by omega, hin, fun H2 s2 => ?_⟩
    have s12 := s1.trans s2
    refine ⟨_, rfl, b, wd, rfl, Same.word s12 hw, ?_, k H2 s12⟩
    have := short_in to hin
    unfold ShortW
    omega
def spReadSubject (K : PySem.W.Frag) (CT CX : Addr) : Sp := fun vs H Q E => ∃ x y : V, vs = [x, y] ∧ TagsArg K CT H E x fun a tags => ((isS y = false ∧ Kd K H y ∧ Bad CX "line" .non H E) ∨
  ∃ t : Str, y = .str t ∧ t.length ≤ 10000 ∧ ((rd tags 200 t = none ∧ Bad CX "line" (.int 0) H E) ∨ ∃ wd, rd tags 200 t = some wd ∧ ∀ p H', Same H H' → H p = none → WordAt H' p wd → Q (.ref p) H'))
theorem okx_read_subject (X : TX K mg) : FnOk P w K mg base (L2.CX P w) 4 X.d_read_subject.a X.d_read_subject.fd ["tags", "text"] (spReadSubject K X.e_InvalidTags X.e_InvalidText) := by
  have nd := sc_read_subject.nd
  refine X.d_read_subject.F.okX sc_read_subject (fun vs H Q E h => ?_) (fun cdv A outer s H vs Q E hr h => ?_)
  · obtain ⟨x, y, rfl, _⟩ := h
    rfl
  · obtain ⟨x, y, rfl, h⟩ := h
    refine ⟨_, (pss_cons (ps_expr (pe_call (okx_check_tags X) (hr.mono (by decide)) rfl X.d_check_tags.mg X.d_check_tags.F.kp X.d_check_tags.b .nil (passes_call (takes_of rfl rfl rfl rfl) (fun _ _ _ _ h => h)) (pa_cons (pv 0) pa_nil))) (pss_cons (ps_if (pt_not (pt_val (pe_callB (QB.call_isiK K) (by rfl) X.n_isinstance QB.bo_isinstance (pa_cons (pv 1) (pa_cons (pe_bltn (v := .ty "str") (by rfl) X.n_str QB.bo_str rfl) pa_nil))))) (pss_one (ps_raise rfl (takes_of rfl rfl rfl rfl) (pmk_oex X.xt_InvalidText.oex X.xt_InvalidText.iC X.xt_InvalidText.tI (ok_InvalidText___init__ X) (hr.mono (by decide)) X.d_InvalidText___init__.b .nil pass0 rfl X.me_InvalidText (pa_cons pe_non pa_nil)))) pss_nil) (pss_cons (ps_set (i := 2) nd rfl (Or.inl rfl) (pe_call (ok_read_word X) (hr.mono (by decide)) rfl X.d_read_word.mg X.d_read_word.F.kp X.d_read_word.b .nil pass0 (pa_cons (pv 0) (pa_cons (pv 1) (pa_cons (pe_gc rfl X.c_LONGEST_SUBJECT) pa_nil))))) (pss_cons (ps_if (pt_cmpR op_isN (pv 2) pe_non (nomark _)) (pss_one (ps_raise rfl (takes_of rfl rfl rfl rfl) (pmk_oex X.xt_InvalidText.oex X.xt_InvalidText.iC X.xt_InvalidText.tI (ok_InvalidText___init__ X) (hr.mono (by decide)) X.d_InvalidText___init__.b .nil pass0 rfl X.me_InvalidText (pa_cons pe_int pa_nil)))) pss_nil) (pss_one (ps_ret (pv 2))))))), ?_⟩
    try dsimp only [Cx.nox, Cx.wish, cxOf]
    rcases h with hb | ⟨a, tags, rfl, ha, to, h⟩
    · refine ⟨_, rfl, ?_⟩
      dsimp only [tNil]
      exact tags_in (.inl hb)
    refine ⟨_, rfl, ?_⟩
    dsimp only [tNil]
    refine tags_in (.inr ⟨a, tags, rfl, ha, to, fun H1 s1 => ?_⟩)
    rcases h with ⟨hs, ⟨ty, h1, h2⟩, h3⟩ | ⟨t, rfl, hz, h⟩
    · refine ⟨_, rfl, _, _, _, _, false, rfl, .ty "str", tySame h1 s1, by rw [h2, hs], false, rfl, ?_⟩
      refine iteT ?_
      exact (h3.same s1).mk (K := K)
    · refine ⟨_, rfl, _, _, _, _, true, rfl, .ty "str", .base (.str t), kit_str_str, true, rfl, ?_⟩
      refine iteF ?_
      refine ⟨_, rfl, _, rfl, a, tags, t, 200, rfl, Same.word s1 ha, hz, fun v H2 s2 hv => ?_⟩
      have s12 := s1.trans s2
      rcases hv with ⟨rfl, hn⟩ | ⟨p, wd, rfl, hp, hw, hn⟩
      · refine ⟨_, rfl, rfl, _, rfl, ?_⟩
        rw [decide_eq_true rfl]
        refine iteT ?_
        rcases h with ⟨_, hb⟩ | ⟨wd, h1, _⟩
        · exact (hb.same s12).mk (K := K)
        · rw [hn] at h1
          cases h1
      · refine ⟨_, rfl, rfl, _, rfl, ?_⟩
        rw [decide_eq_false (fun e => nomatch e)]
        refine iteF ?_
        rcases h with ⟨h1, _⟩ | ⟨wd', h1, k⟩
        · rw [hn] at h1
          cases h1
        · rw [hn] at h1
          cases h1
          exact ⟨_, rfl, k p H2 s12 (s1.free hp) hw⟩
end
end Law
end

section
set_option Elab.async false
set_option linter.all false
set_option maxRecDepth 100000
set_option maxHeartbeats 4000000
namespace Law
open PySem PySem.Spec PyProof.Rows L2 LamX QB QM
def ivD : V → PyData
  | .int i => .int i
  | _ => .none
/-- what comes of a subject to be written, or of a text to be read -/
inductive Out (K : PySem.W.Frag) (H : Hp) (x y : V) : Nat → Str → PyData → Prop
  | tags {way : Nat} {iv : V} : WrongT K H x iv → Out K H x y way "tags" (ivD iv)
  | subj {a : Addr} {tags : Word} {iv : V} : x = .ref a → WordAt H a tags → TagsOk tags → WrongW K H tags 200 y iv → Out K H x y 0 "subject" (ivD iv)
  | text {a b : Addr} {tags wd : Word} : x = .ref a → WordAt H a tags → TagsOk tags → y = .ref b → WordAt H b wd → wd.length ≤ 200 → (∀ t ∈ wd, t ∈ tags) → Out K H x y 0 "text of" (.str (writ wd))
  | line0 {a : Addr} {tags : Word} : x = .ref a → WordAt H a tags → TagsOk tags → isS y = false → Kd K H y → Out K H x y 1 "line" .none
  | line1 {a : Addr} {tags : Word} {t : Str} : x = .ref a → WordAt H a tags → TagsOk tags → y = .str t → t.length ≤ 10000 → rd tags 200 t = none → Out K H x y 1 "line" (.int 0)
  | word {a : Addr} {tags wd : Word} {t : Str} : x = .ref a → WordAt H a tags → TagsOk tags → y = .str t → t.length ≤ 10000 → rd tags 200 t = some wd → Out K H x y 1 "subject of" (dWord wd)
def ToldAt (K : PySem.W.Frag) (H : Hp) (p : Addr) (s : Str) (d : PyData) : Prop := ∃ v, H p = some (.lst [.str s, v]) ∧ Dp K H v d
theorem WrongT.dp {K : PySem.W.Frag} {H H' : Hp} {x iv : V} (h : WrongT K H x iv) : Dp K H' iv (ivD iv) := by
  rcases h with ⟨_, rfl⟩ | ⟨_, _, _, _, ⟨_, rfl⟩ | ⟨_, _, _, _, i, _, _, _, rfl⟩⟩
  · exact .non
  · exact .non
  · exact .int _
theorem WrongW.dp {K : PySem.W.Frag} {H H' : Hp} {tags : Word} {most : Int} {x iv : V} (h : WrongW K H tags most x iv) : Dp K H' iv (ivD iv) := by
  rcases h with ⟨_, rfl⟩ | ⟨_, _, _, _, ⟨_, rfl⟩ | ⟨_, _, _, i, _, _, _, _, rfl⟩⟩
  · exact .non
  · exact .non
  · exact .int _
theorem look1 (f : Str) (v : V) : List.lookup f [(f, v)] = some v := by simp [List.lookup]
section
variable {P : Program} {w : World} {K : PySem.W.Frag} {mg : Str → Option Value} {base : Heap}
def spTold (K : PySem.W.Frag) : Sp := fun vs H Q _ => ∃ (x y : V) (way : Nat) (s : Str) (d : PyData), vs = [.int (way : Int), x, y] ∧ way ≤ 1 ∧ Out K H x y way s d ∧ ∀ p H', Same H H' → H p = none → ToldAt K H' p s d → Q (.ref p) H'
theorem ok__law_told (X : TX K mg) : FnOk P w K mg base CX0 5 X.d__law_told.a X.d__law_told.fd ["way", "tags", "thing"] (spTold K) := by
  have nd := sc__law_told.nd
  refine X.d__law_told.F.ok sc__law_told (fun vs H Q E h => ?_) (fun cdv A outer s0 H vs Q E hr h => ?_)
  · obtain ⟨x, y, way, s, d, rfl, _⟩ := h
    rfl
  · obtain ⟨x, y, way, s, d, rfl, hw, out, k⟩ := h
    refine ⟨_, (pss_cons (ps_set (i := 3) nd rfl (Or.inl rfl) pe_non) (pss_cons (ps_set (i := 4) nd rfl (Or.inl rfl) pe_non) (pss_cons (QX.ps_try_keep (i := 5) (Wout := fun _ _ _ _ => False) rfl rfl rfl nd rfl rfl ⟨rfl, by decide, Or.inl X.me_TagError⟩ L2.takes0 (fun W pn xe tk po => (pss_one (ps_if (pt_cmpR op_eq (pv 0) pe_int (nomark _)) (pss_one (ps_set (i := 4) nd rfl (Or.inl rfl) (pe_lst (pa_cons pe_str (pa_cons (pe_callS (okx_subject_text X) (hr.mono (by decide)) rfl X.d_subject_text.mg X.d_subject_text.F.kp X.d_subject_text.b (fun σ => passAt tk σ) (pa_cons (pv 1) (pa_cons (pv 2) pa_nil))) pa_nil))))) (pss_one (ps_set (i := 4) nd rfl (Or.inl rfl) (pe_lst (pa_cons pe_str (pa_cons (pe_callS (okx_read_subject X) (hr.mono (by decide)) rfl X.d_read_subject.mg X.d_read_subject.F.kp X.d_read_subject.b (fun σ => passAt tk σ) (pa_cons (pv 1) (pa_cons (pv 2) pa_nil))) pa_nil)))))))) (fun a oe cls d pn hz hf => (pss_one (ps_set (i := 3) nd rfl (Or.inl rfl) (pv 5))))) (pss_cons (ps_if (pt_cmpR op_isN (pv 3) pe_non (nomark _)) (pss_one (ps_ret (pv 4))) pss_nil) (pss_cons (ps_if (PW.pt (pw_or (pt_val (pe_callB (QX.call_isXK K) (by rfl) X.n_isinstance QB.bo_isinstance (pa_cons (pv 3) (pa_cons (pe_glob (v := .ref X.e_InvalidEater) rfl X.me_InvalidEater rfl) pa_nil)))) (pw_or1 (pt_not (pt_val (pe_callB (QX.call_isXK K) (by rfl) X.n_isinstance QB.bo_isinstance (pa_cons (pv 3) (pa_cons (pe_bltn (v := .ty "ValueError") (by rfl) X.n_ValueError PyProof.Rows.Boot.«ValueError» rfl) pa_nil)))))))) (pss_one (ps_ret (pe_lst (pa_cons pe_str pa_nil)))) pss_nil) (pss_cons (ps_if (pt_val (pe_callB (QX.call_isXK K) (by rfl) X.n_isinstance QB.bo_isinstance (pa_cons (pv 3) (pa_cons (pe_glob (v := .ref X.e_InvalidTags) rfl X.me_InvalidTags rfl) pa_nil)))) (pss_one (ps_ret (pe_lst (pa_cons pe_str (pa_cons (QX.pe_fxK K (pv 3) rfl) pa_nil))))) pss_nil) (pss_cons (ps_if (pt_val (pe_callB (QX.call_isXK K) (by rfl) X.n_isinstance QB.bo_isinstance (pa_cons (pv 3) (pa_cons (pe_glob (v := .ref X.e_InvalidSubject) rfl X.me_InvalidSubject rfl) pa_nil)))) (pss_one (ps_ret (pe_lst (pa_cons pe_str (pa_cons (QX.pe_fxK K (pv 3) rfl) pa_nil))))) pss_nil) (pss_one (ps_ret (pe_lst (pa_cons pe_str (pa_cons (pe_and (pe_callB (QX.call_isXK K) (by rfl) X.n_isinstance QB.bo_isinstance (pa_cons (pv 3) (pa_cons (pe_glob (v := .ref X.e_InvalidText) rfl X.me_InvalidText rfl) pa_nil))) (pe_one (QX.pe_fxK K (pv 3) rfl))) pa_nil)))))))))))), ?_⟩
    try dsimp only [Cx.nox, Cx.wish, cxOf]
    refine ⟨_, rfl, rfl, _, rfl, ?_⟩
    rcases (by omega : way = 0 ∨ way = 1) with rfl | rfl
    · rw [decide_eq_true (by decide)]
      refine iteT ?_
      refine ⟨_, rfl, _, rfl, ?_⟩
      dsimp only [tNil]
      refine ⟨x, y, rfl, ?_⟩
      cases out with
      | @tags _ iv hT =>
        refine .inl ⟨iv, hT, fun dd H1 s1 h1 n1 => ?_⟩
        refine ⟨true, X.ex_InvalidTags, fun q => Bool.noConfusion q, fun _ a ha => ⟨_, rfl, ?_⟩⟩
        have hk : (upd H1 a (QX.Kept (.ref X.e_InvalidTags) (some dd) a)) a = some (QX.Kept (.ref X.e_InvalidTags) (some dd) a) := upd_same
        have hx := (same_new (o := QX.Kept (.ref X.e_InvalidTags) (some dd) a) ha) _ _ h1
        have s2 := s1.trans (same_new (o := QX.Kept (.ref X.e_InvalidTags) (some dd) a) ha)
        refine ⟨_, rfl, rfl, _, rfl, ?_⟩
        rw [decide_eq_false (fun e => nomatch e)]
        refine iteF ?_
        refine ⟨_, rfl, a, _, some dd, _, _, false, rfl, hk, .inr ⟨dd, _, rfl, hx⟩, X.xt_InvalidTags.exc, .own _, X.ki_InvalidTags_InvalidEater, false, rfl, ?_⟩
        refine iteF ?_
        refine ⟨_, rfl, a, _, some dd, _, _, true, rfl, hk, .inr ⟨dd, _, rfl, hx⟩, X.xt_InvalidTags.exc, .ty "ValueError", X.kv_InvalidTags, true, rfl, ?_⟩
        refine iteF ?_
        refine ⟨_, rfl, a, _, some dd, _, _, true, rfl, hk, .inr ⟨dd, _, rfl, hx⟩, X.xt_InvalidTags.exc, .own _, X.ki_InvalidTags_InvalidTags, true, rfl, ?_⟩
        refine iteT ?_
        refine ⟨_, rfl, a, _, dd, _, iv, rfl, hk, X.xt_InvalidTags.xf, X.xt_InvalidTags.noF, hx, look1 _ _, by show 2 ≤ sizeLine; decide, fun p hp => ?_⟩
        exact k p _ (Same.new s2 hp) (s2.free hp) ⟨_, upd_same, hT.dp⟩
      | @subj a tags iv ex ha to hW =>
        refine .inr ⟨a, tags, ex, ha, to, .inl ⟨iv, hW, fun dd H1 s1 h1 n1 => ?_⟩⟩
        refine ⟨true, X.ex_InvalidSubject, fun q => Bool.noConfusion q, fun _ a ha => ⟨_, rfl, ?_⟩⟩
        have hk : (upd H1 a (QX.Kept (.ref X.e_InvalidSubject) (some dd) a)) a = some (QX.Kept (.ref X.e_InvalidSubject) (some dd) a) := upd_same
        have hx := (same_new (o := QX.Kept (.ref X.e_InvalidSubject) (some dd) a) ha) _ _ h1
        have s2 := s1.trans (same_new (o := QX.Kept (.ref X.e_InvalidSubject) (some dd) a) ha)
        refine ⟨_, rfl, rfl, _, rfl, ?_⟩
        rw [decide_eq_false (fun e => nomatch e)]
        refine iteF ?_
        refine ⟨_, rfl, a, _, some dd, _, _, false, rfl, hk, .inr ⟨dd, _, rfl, hx⟩, X.xt_InvalidSubject.exc, .own _, X.ki_InvalidSubject_InvalidEater, false, rfl, ?_⟩
        refine iteF ?_
        refine ⟨_, rfl, a, _, some dd, _, _, true, rfl, hk, .inr ⟨dd, _, rfl, hx⟩, X.xt_InvalidSubject.exc, .ty "ValueError", X.kv_InvalidSubject, true, rfl, ?_⟩
        refine iteF ?_
        refine ⟨_, rfl, a, _, some dd, _, _, false, rfl, hk, .inr ⟨dd, _, rfl, hx⟩, X.xt_InvalidSubject.exc, .own _, X.ki_InvalidSubject_InvalidTags, false, rfl, ?_⟩
        refine iteF ?_
        refine ⟨_, rfl, a, _, some dd, _, _, true, rfl, hk, .inr ⟨dd, _, rfl, hx⟩, X.xt_InvalidSubject.exc, .own _, X.ki_InvalidSubject_InvalidSubject, true, rfl, ?_⟩
        refine iteT ?_
        refine ⟨_, rfl, a, _, dd, _, iv, rfl, hk, X.xt_InvalidSubject.xf, X.xt_InvalidSubject.noF, hx, look1 _ _, by show 2 ≤ sizeLine; decide, fun p hp => ?_⟩
        exact k p _ (Same.new s2 hp) (s2.free hp) ⟨_, upd_same, hW.dp⟩
      | @text a b tags wd ex ha to ey hb hl hin =>
        refine .inr ⟨a, tags, ex, ha, to, .inr ⟨b, wd, ey, hb, hl, hin, fun H1 s1 => ?_⟩⟩
        refine ⟨by show 2 ≤ sizeLine; decide, fun p hp => ?_⟩
        refine ⟨_, rfl, rfl, _, rfl, ?_⟩
        rw [decide_eq_true rfl]
        refine iteT ?_
        exact ⟨_, rfl, k p _ (Same.new s1 hp) (s1.free hp) ⟨_, upd_same, .str _⟩⟩
    · rw [decide_eq_false (by decide)]
      refine iteF ?_
      refine ⟨_, rfl, _, rfl, ?_⟩
      dsimp only [tNil]
      refine ⟨x, y, rfl, ?_⟩
      cases out with
      | @tags _ iv hT =>
        refine .inl ⟨iv, hT, fun dd H1 s1 h1 n1 => ?_⟩
        refine ⟨true, X.ex_InvalidTags, fun q => Bool.noConfusion q, fun _ a ha => ⟨_, rfl, ?_⟩⟩
        have hk : (upd H1 a (QX.Kept (.ref X.e_InvalidTags) (some dd) a)) a = some (QX.Kept (.ref X.e_InvalidTags) (some dd) a) := upd_same
        have hx := (same_new (o := QX.Kept (.ref X.e_InvalidTags) (some dd) a) ha) _ _ h1
        have s2 := s1.trans (same_new (o := QX.Kept (.ref X.e_InvalidTags) (some dd) a) ha)
        refine ⟨_, rfl, rfl, _, rfl, ?_⟩
        rw [decide_eq_false (fun e => nomatch e)]
        refine iteF ?_
        refine ⟨_, rfl, a, _, some dd, _, _, false, rfl, hk, .inr ⟨dd, _, rfl, hx⟩, X.xt_InvalidTags.exc, .own _, X.ki_InvalidTags_InvalidEater, false, rfl, ?_⟩
        refine iteF ?_
        refine ⟨_, rfl, a, _, some dd, _, _, true, rfl, hk, .inr ⟨dd, _, rfl, hx⟩, X.xt_InvalidTags.exc, .ty "ValueError", X.kv_InvalidTags, true, rfl, ?_⟩
        refine iteF ?_
        refine ⟨_, rfl, a, _, some dd, _, _, true, rfl, hk, .inr ⟨dd, _, rfl, hx⟩, X.xt_InvalidTags.exc, .own _, X.ki_InvalidTags_InvalidTags, true, rfl, ?_⟩
        refine iteT ?_
        refine ⟨_, rfl, a, _, dd, _, iv, rfl, hk, X.xt_InvalidTags.xf, X.xt_InvalidTags.noF, hx, look1 _ _, by show 2 ≤ sizeLine; decide, fun p hp => ?_⟩
        exact k p _ (Same.new s2 hp) (s2.free hp) ⟨_, upd_same, hT.dp⟩
      | @line0 a tags ex ha to hs hkd =>
        refine .inr ⟨a, tags, ex, ha, to, .inl ⟨hs, hkd, fun dd H1 s1 h1 n1 => ?_⟩⟩
        refine ⟨true, X.ex_InvalidText, fun q => Bool.noConfusion q, fun _ a ha => ⟨_, rfl, ?_⟩⟩
        have hk : (upd H1 a (QX.Kept (.ref X.e_InvalidText) (some dd) a)) a = some (QX.Kept (.ref X.e_InvalidText) (some dd) a) := upd_same
        have hx := (same_new (o := QX.Kept (.ref X.e_InvalidText) (some dd) a) ha) _ _ h1
        have s2 := s1.trans (same_new (o := QX.Kept (.ref X.e_InvalidText) (some dd) a) ha)
        refine ⟨_, rfl, rfl, _, rfl, ?_⟩
        rw [decide_eq_false (fun e => nomatch e)]
        refine iteF ?_
        refine ⟨_, rfl, a, _, some dd, _, _, false, rfl, hk, .inr ⟨dd, _, rfl, hx⟩, X.xt_InvalidText.exc, .own _, X.ki_InvalidText_InvalidEater, false, rfl, ?_⟩
        refine iteF ?_
        refine ⟨_, rfl, a, _, some dd, _, _, true, rfl, hk, .inr ⟨dd, _, rfl, hx⟩, X.xt_InvalidText.exc, .ty "ValueError", X.kv_InvalidText, true, rfl, ?_⟩
        refine iteF ?_
        refine ⟨_, rfl, a, _, some dd, _, _, false, rfl, hk, .inr ⟨dd, _, rfl, hx⟩, X.xt_InvalidText.exc, .own _, X.ki_InvalidText_InvalidTags, false, rfl, ?_⟩
        refine iteF ?_
        refine ⟨_, rfl, a, _, some dd, _, _, false, rfl, hk, .inr ⟨dd, _, rfl, hx⟩, X.xt_InvalidText.exc, .own _, X.ki_InvalidText_InvalidSubject, false, rfl, ?_⟩
        refine iteF ?_
        refine ⟨_, rfl, a, _, some dd, _, _, true, rfl, hk, .inr ⟨dd, _, rfl, hx⟩, X.xt_InvalidText.exc, .own _, X.ki_InvalidText_InvalidText, ?_⟩
        refine ⟨true, rfl, ?_⟩
        refine ⟨_, rfl, a, _, dd, _, .non, rfl, hk, X.xt_InvalidText.xf, X.xt_InvalidText.noF, hx, look1 _ _, by show 2 ≤ sizeLine; decide, fun p hp => ?_⟩
        exact k p _ (Same.new s2 hp) (s2.free hp) ⟨_, upd_same, .non⟩
      | @line1 a tags t ex ha to ey hz hn =>
        refine .inr ⟨a, tags, ex, ha, to, .inr ⟨t, ey, hz, .inl ⟨hn, fun dd H1 s1 h1 n1 => ?_⟩⟩⟩
        refine ⟨true, X.ex_InvalidText, fun q => Bool.noConfusion q, fun _ a ha => ⟨_, rfl, ?_⟩⟩
        have hk : (upd H1 a (QX.Kept (.ref X.e_InvalidText) (some dd) a)) a = some (QX.Kept (.ref X.e_InvalidText) (some dd) a) := upd_same
        have hx := (same_new (o := QX.Kept (.ref X.e_InvalidText) (some dd) a) ha) _ _ h1
        have s2 := s1.trans (same_new (o := QX.Kept (.ref X.e_InvalidText) (some dd) a) ha)
        refine ⟨_, rfl, rfl, _, rfl, ?_⟩
        rw [decide_eq_false (fun e => nomatch e)]
        refine iteF ?_
        refine ⟨_, rfl, a, _, some dd, _, _, false, rfl, hk, .inr ⟨dd, _, rfl, hx⟩, X.xt_InvalidText.exc, .own _, X.ki_InvalidText_InvalidEater, false, rfl, ?_⟩
        refine iteF ?_
        refine ⟨_, rfl, a, _, some dd, _, _, true, rfl, hk, .inr ⟨dd, _, rfl, hx⟩, X.xt_InvalidText.exc, .ty "ValueError", X.kv_InvalidText, true, rfl, ?_⟩
        refine iteF ?_
        refine ⟨_, rfl, a, _, some dd, _, _, false, rfl, hk, .inr ⟨dd, _, rfl, hx⟩, X.xt_InvalidText.exc, .own _, X.ki_InvalidText_InvalidTags, false, rfl, ?_⟩
        refine iteF ?_
        refine ⟨_, rfl, a, _, some dd, _, _, false, rfl, hk, .inr ⟨dd, _, rfl, hx⟩, X.xt_InvalidText.exc, .own _, X.ki_InvalidText_InvalidSubject, false, rfl, ?_⟩
        refine iteF ?_
        refine ⟨_, rfl, a, _, some dd, _, _, true, rfl, hk, .inr ⟨dd, _, rfl, hx⟩, X.xt_InvalidText.exc, .own _, X.ki_InvalidText_InvalidText, ?_⟩
        refine ⟨true, rfl, ?_⟩
        refine ⟨_, rfl, a, _, dd, _, .int 0, rfl, hk, X.xt_InvalidText.xf, X.xt_InvalidText.noF, hx, look1 _ _, by show 2 ≤ sizeLine; decide, fun p hp => ?_⟩
        exact k p _ (Same.new s2 hp) (s2.free hp) ⟨_, upd_same, .int 0⟩
      | @word a tags wd t ex ha to ey hz hn =>
        refine .inr ⟨a, tags, ex, ha, to, .inr ⟨t, ey, hz, .inr ⟨wd, hn, fun q H1 s1 nq hq => ?_⟩⟩⟩
        refine ⟨by show 2 ≤ sizeLine; decide, fun p hp => ?_⟩
        have s2 := same_new (o := .lst [V.str (Str.ofString "subject of"), V.ref q]) hp
        refine ⟨_, rfl, rfl, _, rfl, ?_⟩
        rw [decide_eq_true rfl]
        refine iteT ?_
        exact ⟨_, rfl, k p _ (Same.new s1 hp) (s1.free hp) ⟨_, upd_same, dp_wd (Same.word s2 hq)⟩⟩
end
end Law
end

section
set_option Elab.async false
set_option linter.all false
set_option maxRecDepth 100000
set_option maxHeartbeats 4000000
namespace Law
open PySem PySem.Spec PyProof.Rows L2 LamX QB QM
section
variable {P : Program} {w : World} {K : PySem.W.Frag} {mg : Str → Option Value} {base : Heap}

/-! ### what stays, but for some lists -/
def Exc (M : List Addr) (H H' : Hp) : Prop := ∀ a o, a ∉ M → H a = some o → H' a = some o
theorem Exc.refl {M : List Addr} {H : Hp} : Exc M H H := fun _ _ _ h => h
theorem Exc.trans {M : List Addr} {H H1 H2 : Hp} (a : Exc M H H1) (b : Exc M H1 H2) : Exc M H H2 := fun c o n h => b c o n (a c o n h)
theorem Exc.of {M : List Addr} {H H' : Hp} (a : Same H H') : Exc M H H' := fun c o _ h => a c o h
theorem Exc.mono {M N : List Addr} {H H' : Hp} (a : Exc M H H') (h : ∀ x ∈ M, x ∈ N) : Exc N H H' := fun c o n e => a c o (fun z => n (h c z)) e
theorem Exc.new {M : List Addr} {H H' : Hp} {p : Addr} {o : HO} (a : Exc M H H') (h : H' p = none) : Exc M H (upd H' p o) := a.trans (.of (same_new h))
theorem Exc.mut {M : List Addr} {H H' : Hp} {p : Addr} {o : HO} (a : Exc M H H') (h : p ∈ M ∨ H p = none) : Exc M H (upd H' p o) := fun c u n e => by
  have : c ≠ p := fun z => by
    subst z
    rcases h with h | h
    · exact n h
    · rw [h] at e
      cases e
  rw [upd_ne this]
  exact a c u n e
theorem Exc.free {M : List Addr} {H H' : Hp} {p : Addr} (a : Exc M H H') (h : H' p = none) (n : p ∉ M) : H p = none := by
  cases e : H p with
  | none => rfl
  | some o =>
    rw [a p o n e] at h
    cases h
/-- the pile of draws -/
def PileAt (H : Hp) (p : Addr) : Prop := ∃ d c n : Int, H p = some (.lst [.int d, .int c, .int n])
theorem PileAt.free {H H' : Hp} {p q : Addr} (a : Exc [p] H H') (h : PileAt H p) (h' : PileAt H' p) (e : H' q = none) : H q = none := by
  have : q ≠ p := fun z => by
    subst z
    obtain ⟨_, _, _, h⟩ := h'
    rw [h] at e
    cases e
  exact a.free e (by simpa using this)

def spMixed : Sp := fun vs H Q _ => ∃ c k : Int, vs = [.int c, .int k] ∧ ∀ r : Int, Q (.int r) H
theorem emod_lt {i j : Int} (h : 0 < j) : 0 ≤ i % j ∧ i % j < j := ⟨Int.emod_nonneg i (by omega), Int.emod_lt_of_pos i h⟩
theorem ok__law_mixed (X : TX K mg) : FnOk P w K mg base CX0 1 X.d__law_mixed.a X.d__law_mixed.fd ["cell", "k"] spMixed := by
  have nd := sc__law_mixed.nd
  refine X.d__law_mixed.F.ok sc__law_mixed (fun vs H Q E h => ?_) (fun cdv A outer s H vs Q E hr h => ?_)
  · obtain ⟨c, k, rfl, _⟩ := h
    rfl
  · obtain ⟨c, k, rfl, q⟩ := h
    refine ⟨_, (pss_cons (ps_set (i := 2) nd rfl (Or.inl rfl) (pe_op op_mod (pe_op op_add (pe_op op_add (pe_op op_mul (pe_op op_mod (pe_callTy call_int1 (by rfl) X.n_int QB.bo_int (pa_cons (pv 0) pa_nil)) pe_int) pe_int) (pe_op op_mul (pv 1) pe_int)) pe_int) pe_int)) (pss_cons (ps_set (i := 2) nd rfl (Or.inl rfl) (pe_op op_mod (pe_op op_mul (pv 2) (pv 2)) pe_int)) (pss_one (ps_ret (pe_op op_fdiv (pe_op op_mod (pe_op op_mul (pv 2) (pv 2)) pe_int) pe_int))))), ?_⟩
    try dsimp only [Cx.nox, Cx.wish, cxOf]
    have m1 : (0 : Int) < 2147483647 := by decide
    have m2 : (0 : Int) < 2147483629 := by decide
    have m3 : (0 : Int) < 2147483587 := by decide
    refine ⟨_, rfl, .inl ⟨_, rfl, _, _, rfl, rfl, m1, _, _, rfl, rfl, .inr ⟨by decide, by decide⟩, _, rfl, _, _, rfl, rfl, .inr ⟨by decide, by decide⟩, _, _, rfl, rfl, _, _, rfl, rfl, _, _, rfl, rfl, m1, ?_⟩⟩
    refine ⟨_, rfl, _, rfl, _, _, rfl, rfl, ?_, _, _, rfl, rfl, m2, ?_⟩
    · have := emod_lt (i := c % 2147483647 * 48271 + k * 69621 + 11) m1
      refine .inl ⟨?_, ?_⟩ <;> omega
    refine ⟨_, rfl, _, rfl, _, _, rfl, rfl, ?_, _, _, rfl, rfl, m3, ?_⟩
    · have := emod_lt (i := (c % 2147483647 * 48271 + k * 69621 + 11) % 2147483647 * ((c % 2147483647 * 48271 + k * 69621 + 11) % 2147483647)) m2
      refine .inl ⟨?_, ?_⟩ <;> omega
    exact ⟨_, _, rfl, rfl, ⟨by decide, by decide⟩, q _⟩
theorem mul50 : CMulW ((10 : Int) ^ Int.toNat 50) ((10 : Int) ^ Int.toNat 50) := wide_mul (a := 200) (b := 200) (by decide +kernel) (by decide +kernel) (by decide) (by decide) (by decide)
theorem mul100 : CMulW ((10 : Int) ^ Int.toNat 50 * (10 : Int) ^ Int.toNat 50) ((10 : Int) ^ Int.toNat 50) := wide_mul (a := 400) (b := 200) (by decide +kernel) (by decide +kernel) (by decide) (by decide) (by decide)
theorem pos150 : (0 : Int) < (10 : Int) ^ Int.toNat 50 * (10 : Int) ^ Int.toNat 50 * (10 : Int) ^ Int.toNat 50 := by decide +kernel
def spPile (K : PySem.W.Frag) : Sp := fun vs H Q _ => ∃ (l : Addr) (ns : List Int) (k : Nat), vs = [.ref l, .int (k : Int)] ∧ SqL K H l (ns.map V.int) ∧ ∀ (p : Addr) (H' : Hp), Same H H' → H p = none → PileAt H' p → Q (.ref p) H'
theorem ok__law_pile (X : TX K mg) : FnOk P w K mg base CX0 1 X.d__law_pile.a X.d__law_pile.fd ["script", "k"] (spPile K) := by
  have nd := sc__law_pile.nd
  refine X.d__law_pile.F.ok sc__law_pile (fun vs H Q E h => ?_) (fun cdv A outer s H vs Q E hr h => ?_)
  · obtain ⟨l, ns, k, rfl, _⟩ := h
    rfl
  · obtain ⟨l, ns, k, rfl, hl, q⟩ := h
    refine ⟨_, (pss_cons (ps_set (i := 2) nd rfl (Or.inl rfl) pe_int) (pss_cons (ps_if (pt_cmpR op_lt (pv 1) (pe_callB (QB.call_lenK K) (by rfl) X.n_len PySem.boot_len (pa_cons (pv 0) pa_nil)) (nomark _)) (pss_one (ps_set (i := 2) nd rfl (Or.inl rfl) (pe_ix (QB.ix_listK K) (pv 0) (pv 1) (fun _ _ => rfl)))) pss_nil) (pss_cons (ps_set (i := 3) nd rfl (Or.inl rfl) (pe_op op_mod (pe_callTy call_int1 (by rfl) X.n_int QB.bo_int (pa_cons (pv 2) pa_nil)) (pe_op op_mulW (pe_op op_mulW (pe_op op_pow pe_int pe_int) (pe_op op_pow pe_int pe_int)) (pe_op op_pow pe_int pe_int)))) (pss_one (ps_ret (pe_lst (pa_cons (pe_op op_mul (pv 3) (pe_callTy call_int1 (by rfl) X.n_int QB.bo_int (pa_cons (pe_cmpR op_ge (pe_callB call_abs (by rfl) X.n_abs QB.bo_abs (pa_cons (pv 2) pa_nil)) (pe_op op_pow pe_int pe_int) (nomark _)) pa_nil))) (pa_cons (pe_op op_mod (pe_callTy call_int1 (by rfl) X.n_int QB.bo_int (pa_cons (pv 2) pa_nil)) pe_int) (pa_cons (pe_op op_mul pe_int (pv 1)) pa_nil))))))))), ?_⟩
    try dsimp only [Cx.nox, Cx.wish, cxOf]
    refine ⟨_, rfl, _, rfl, _, _, rfl, .inl hl, ?_⟩
    refine ⟨_, _, rfl, rfl, _, rfl, ?_⟩
    by_cases hj : k < ns.length
    case' pos =>
      rw [decide_eq_true (by rw [List.length_map]; omega)]
      refine iteT ?_
      refine ⟨_, rfl, _, rfl, l, ns.map V.int, (k : Int), _, rfl, rfl, hl, atI_nat (v := V.int (ns[k]'hj)) (by rw [List.getElem?_map, List.getElem?_eq_getElem hj]; rfl), ?_⟩
      generalize ns[k]'hj = c
    case' neg =>
      rw [decide_eq_false (by rw [List.length_map]; omega)]
      refine iteF ?_
    all_goals
      refine ⟨_, rfl, .inl ⟨_, rfl, ?_⟩⟩
      refine ⟨_, _, rfl, rfl, ⟨by decide, by decide, by decide⟩, _, _, rfl, rfl, ⟨by decide, by decide, by decide⟩, _, _, rfl, rfl, mul50, _, _, rfl, rfl, ⟨by decide, by decide, by decide⟩, _, _, rfl, rfl, mul100, _, _, rfl, rfl, pos150, ?_⟩
      refine ⟨_, rfl, _, rfl, _, rfl, _, _, rfl, rfl, ⟨by decide, by decide, by decide⟩, _, _, rfl, rfl, .inr ⟨_, rfl, ?_⟩⟩
      generalize decide ((10 : Int) ^ Int.toNat 18 ≤ _) = bb
      cases bb <;>
      · refine ⟨_, _, rfl, rfl, .inr ⟨by decide, by decide⟩, ?_⟩
        refine ⟨_, rfl, .inl ⟨_, rfl, _, _, rfl, rfl, by show (0 : Int) < 2147483647; decide, _, rfl, _, _, rfl, rfl, .inl ⟨by decide, by decide⟩, by show 3 ≤ sizeLine; decide, fun p hp => ?_⟩⟩
        exact q p _ (same_new hp) hp ⟨_, _, _, upd_same⟩
def spTake : Sp := fun vs H Q _ => ∃ (p : Addr) (m : Nat), vs = [.ref p, .int (m : Int)] ∧ 0 < m ∧ m ≤ 1000 ∧ PileAt H p ∧ ∀ (r : Nat) (H' : Hp), r < m → Exc [p] H H' → PileAt H' p → Q (.int (r : Int)) H'
theorem nat_of_mod {i : Int} {m : Nat} (h : 0 < m) : ∃ r : Nat, r < m ∧ i % (m : Int) = (r : Int) := by
  have := emod_lt (i := i) (show (0 : Int) < (m : Int) by omega)
  exact ⟨(i % (m : Int)).toNat, by omega, by omega⟩
theorem ok__law_take (X : TX K mg) : FnOk P w K mg base CX0 2 X.d__law_take.a X.d__law_take.fd ["pile", "many"] spTake := by
  have nd := sc__law_take.nd
  refine X.d__law_take.F.ok sc__law_take (fun vs H Q E h => ?_) (fun cdv A outer s H vs Q E hr h => ?_)
  · obtain ⟨p, m, rfl, _⟩ := h
    rfl
  · obtain ⟨p, m, rfl, m0, m1, ⟨d, c, n, hp⟩, q⟩ := h
    refine ⟨_, (pss_cons (ps_if (pt_cmpR op_eq (pe_ix (QB.ix_listK K) (pv 0) pe_int (fun _ _ => rfl)) pe_int (nomark _)) (pss_cons (ps_asg (pe_op op_add (pe_ix (QB.ix_listK K) (pv 0) pe_int (fun _ _ => rfl)) pe_int) (pg_sub (pv 0) pe_int set_list)) (pss_one (ps_ret (pe_op op_mod (pe_call (ok__law_mixed X) (hr.mono (by decide)) rfl X.d__law_mixed.mg X.d__law_mixed.F.kp X.d__law_mixed.b .nil pass0 (pa_cons (pe_ix (QB.ix_listK K) (pv 0) pe_int (fun _ _ => rfl)) (pa_cons (pe_ix (QB.ix_listK K) (pv 0) pe_int (fun _ _ => rfl)) pa_nil))) (pv 1))))) pss_nil) (pss_cons (ps_set (i := 2) nd rfl (Or.inl rfl) (pe_op op_mod (pe_callTy call_int1 (by rfl) X.n_int QB.bo_int (pa_cons (pe_ix (QB.ix_listK K) (pv 0) pe_int (fun _ _ => rfl)) pa_nil)) (pv 1))) (pss_cons (ps_asg (pe_op op_fdiv (pe_ix (QB.ix_listK K) (pv 0) pe_int (fun _ _ => rfl)) (pv 1)) (pg_sub (pv 0) pe_int set_list)) (pss_one (ps_ret (pv 2)))))), ?_⟩
    try dsimp only [Cx.nox, Cx.wish, cxOf]
    refine ⟨_, rfl, p, _, _, _, rfl, rfl, SqL.of hp, rfl, ?_⟩
    refine ⟨rfl, _, rfl, ?_⟩
    generalize decide (V.int d = V.int 0) = bb
    cases bb
    · refine iteF ?_
      refine ⟨_, rfl, p, _, _, _, rfl, rfl, SqL.of hp, rfl, .inl ⟨_, rfl, ?_⟩⟩
      obtain ⟨r, hr1, hr2⟩ := nat_of_mod (i := d) m0
      refine ⟨_, rfl, _, _, rfl, rfl, by show (0 : Int) < m; omega, ?_⟩
      refine ⟨_, rfl, p, _, _, _, rfl, rfl, SqL.of hp, rfl, _, rfl, _, _, rfl, rfl, ⟨by omega, by omega⟩, ?_⟩
      refine ⟨_, rfl, p, _, _, 0, rfl, rfl, hp, rfl, _, rfl, ?_⟩
      show Q (.int (d % (m : Int))) _
      rw [hr2]
      exact q r _ hr1 (Exc.refl.mut (.inl (by simp))) ⟨_, _, _, upd_same⟩
    · refine iteT ?_
      refine ⟨_, rfl, p, _, _, _, rfl, rfl, SqL.of hp, rfl, _, _, rfl, rfl, ?_⟩
      refine ⟨_, rfl, p, _, _, 2, rfl, rfl, hp, rfl, ?_⟩
      generalize hH2 : upd H p _ = H2
      have hp2 : H2 p = some (.lst [V.int d, V.int c, V.int (n + 1)]) := by rw [← hH2]; exact upd_same
      have s2 : Exc [p] H H2 := by rw [← hH2]; exact Exc.refl.mut (.inl (by simp))
      refine ⟨_, rfl, p, _, _, _, rfl, rfl, SqL.of hp2, rfl, ?_⟩
      refine ⟨_, rfl, p, _, _, _, rfl, rfl, SqL.of hp2, rfl, ?_⟩
      refine ⟨_, _, rfl, fun r0 => ?_⟩
      obtain ⟨r, hr1, hr2⟩ := nat_of_mod (i := r0) m0
      refine ⟨_, rfl, _, _, rfl, rfl, by show (0 : Int) < m; omega, ?_⟩
      show Q (.int (r0 % (m : Int))) H2
      rw [hr2]
      exact q r _ hr1 s2 ⟨_, _, _, hp2⟩
end
end Law
end

section
set_option Elab.async false
set_option linter.all false
set_option maxRecDepth 100000
set_option maxHeartbeats 4000000
namespace Law
open PySem PySem.Spec PyProof.Rows L2 LamX QB QM TL QT
section
variable {P : Program} {w : World} {K : PySem.W.Frag} {mg : Str → Option Value} {base : Heap}
theorem PileAt.upd {H : Hp} {p q : Addr} {o : HO} (h : PileAt H p) (n : p ≠ q) : PileAt (L2.upd H q o) p := by
  obtain ⟨d, c, k, e⟩ := h
  exact ⟨d, c, k, (upd_ne n).trans e⟩
theorem PileAt.ne {H : Hp} {p q : Addr} (h : PileAt H p) (n : H q = none) : p ≠ q := fun z => by
  subst z
  obtain ⟨_, _, _, e⟩ := h
  rw [n] at e
  cases e
theorem PileAt.same {H H' : Hp} {p : Addr} (h : PileAt H p) (s : Same H H') : PileAt H' p := by
  obtain ⟨d, c, k, e⟩ := h
  exact ⟨d, c, k, s _ _ e⟩
theorem sum_ones : ∀ l : List Nat, ((l.map fun y => (⟨#[97 + y]⟩ : Str)).map (·.length)).sum = l.length
  | [] => rfl
  | y :: l => by
    rw [List.map_cons, List.map_cons, List.sum_cons, sum_ones l, List.length_cons]
    show 1 + l.length = l.length + 1
    omega
def paces : List Nat := [1, 3, 5, 7, 9, 11, 15, 17, 19, 21, 23, 25]
def plains : Word := ["re", "fwd", "list", "aw", "r", "ext", "re", "fwd", "list", "aw", "r"]
theorem paces_inj : ∀ c ∈ paces, ∀ sh < 26, ∀ i < 6, ∀ j < 6, 97 + (sh + c * i) % 26 = 97 + (sh + c * j) % 26 → i = j := by decide +kernel
theorem plains_nd : ∀ k < 6, ∀ m < 7, ((plains.drop k).take m).Nodup := by decide +kernel
theorem plains_len : ∀ k < 6, ∀ m < 7, m ≤ 5 ∨ k ≤ 5 → ((plains.drop k).take m).length = m := by decide +kernel
theorem plains_txt : ∀ t ∈ plains, (decide (1 ≤ t.length) && decide (t.length ≤ 8) && t.cps.toList.all fun c => decide (c ∈ letters.cps.toList)) = true := by decide +kernel
theorem plains_tags {k m : Nat} (hk : k < 6) (h0 : 1 ≤ m) (hm : m ≤ 6) : TagsOk ((plains.drop k).take m) := by
  have h2 := plains_len k hk m (by omega) (.inr (by omega))
  refine ⟨by rw [h2]; exact h0, by rw [h2]; exact hm, plains_nd k hk m (by omega), fun t ht => ?_⟩
  have h := plains_txt t (List.mem_of_mem_drop (List.mem_of_mem_take ht))
  rw [Bool.and_eq_true, Bool.and_eq_true, List.all_eq_true] at h
  exact ⟨of_decide_eq_true h.1.1, of_decide_eq_true h.1.2, fun c hc => of_decide_eq_true (h.2 c hc)⟩
theorem cut_both {xs : List V} {i m : Nat} (h : i + m ≤ xs.length) : cutV xs (some (i : Int)) (some ((i : Int) + (m : Int))) = (xs.drop i).take m := by
  rw [show (i : Int) + (m : Int) = ((i + m : Nat) : Int) by omega]
  unfold cutV
  rw [HT.sIx_nat, HT.sIx_nat, Nat.min_eq_left (by omega), Nat.min_eq_left (by omega), Nat.add_sub_cancel_left]
/-- one drawn name -/
def nameOf (w : Str) (at_ sh pc i : Nat) : Str := cutS w none (some (at_ : Int)) ++ (⟨#[97 + (sh + pc * i) % 26]⟩ : Str) ++ cutS w (some (at_ : Int)) none
theorem tl_name (w : Str) (at_ sh pc i : Nat) : tl (nameOf w at_ sh pc i) = (tl w).take at_ ++ [97 + (sh + pc * i) % 26] ++ (tl w).drop at_ := by
  unfold nameOf
  rw [tl_append, tl_append, tl_cutL, tl_cutR]
theorem name_len (w : Str) (at_ sh pc i : Nat) : (nameOf w at_ sh pc i).length = w.length + 1 := by
  have e1 : (nameOf w at_ sh pc i).length = (tl (nameOf w at_ sh pc i)).length := len_tl _
  have e2 : w.length = (tl w).length := len_tl w
  have e3 : ((tl w).take at_).length + ((tl w).drop at_).length = (tl w).length := by rw [← List.length_append, List.take_append_drop]
  rw [e1, tl_name, List.length_append, List.length_append, e2]
  simp only [List.length_cons, List.length_nil]
  omega
theorem cut_lens (w : Str) (k : Nat) : (cutS w none (some (k : Int))).length ≤ w.length ∧ (cutS w (some (k : Int)) none).length ≤ w.length := by
  have e1 : (cutS w none (some (k : Int))).length = ((tl w).take k).length := (len_tl _).trans (congrArg List.length (tl_cutL w k))
  have e2 : (cutS w (some (k : Int)) none).length = ((tl w).drop k).length := (len_tl _).trans (congrArg List.length (tl_cutR w k))
  have e3 : w.length = (tl w).length := len_tl w
  rw [e1, e2, e3, List.length_take, List.length_drop]
  exact ⟨Nat.min_le_right _ _, Nat.sub_le _ _⟩
theorem len_add (x y : Str) : (x ++ y).length = x.length + y.length := by
  have e1 : (x ++ y).length = (tl (x ++ y)).length := len_tl _
  have e2 : x.length = (tl x).length := len_tl x
  have e3 : y.length = (tl y).length := len_tl y
  rw [e1, tl_append, List.length_append, e2, e3]
theorem names_tags {w : Str} {at_ sh pc m : Nat} (hw : w.length < 8) (hc : ∀ c ∈ tl w, 97 ≤ c ∧ c < 123) (hs : sh < 26) (hp : pc ∈ paces) (h0 : 1 ≤ m) (hm : m ≤ 6) : TagsOk ((List.range m).map fun i => nameOf w at_ sh pc i) := by
  refine ⟨by simpa using h0, by simpa using hm, ?_, fun t ht => ?_⟩
  · refine List.pairwise_map.mpr (List.nodup_range.imp_of_mem fun {i j} hi hj hne z => hne ?_)
    have z2 : tl (nameOf w at_ sh pc i) = tl (nameOf w at_ sh pc j) := congrArg tl z
    rw [tl_name, tl_name] at z2
    rw [List.mem_range] at hi hj
    have z3 : (tl w).take at_ ++ [97 + (sh + pc * i) % 26] ++ (tl w).drop at_ ++ [] = (tl w).take at_ ++ [97 + (sh + pc * j) % 26] ++ (tl w).drop at_ ++ [] := by rw [z2]
    exact paces_inj pc hp sh hs i (by omega) j (by omega) (mid_inj z3)
  · obtain ⟨i, _, rfl⟩ := List.mem_map.mp ht
    have hl := name_len w at_ sh pc i
    refine ⟨by omega, by omega, fun c hcm => ?_⟩
    refine (abc_mem (c := c)).mpr ?_
    have hcm : c ∈ tl (nameOf w at_ sh pc i) := hcm
    rw [tl_name] at hcm
    rcases List.mem_append.mp hcm with h | h
    · rcases List.mem_append.mp h with h | h
      · exact hc c (List.mem_of_mem_take h)
      · rw [List.mem_singleton.mp h]
        omega
    · exact hc c (List.mem_of_mem_drop h)
theorem PileAt.ne2 {H : Hp} {p q : Addr} {w : Word} (h : PileAt H p) (e : H q = some (.lst (vS w))) : q ≠ p := fun z => by
  subst z
  obtain ⟨d, c, n, h⟩ := h
  rw [h] at e
  have e := HO.lst.inj (Option.some.inj e)
  cases w with
  | nil => cases e
  | cons t w =>
    have := (List.cons.inj e).1
    cases this
theorem wordEx {H H' : Hp} {p a : Addr} {t : Word} (e : Exc [p] H H') (n : a ≠ p) (h : WordAt H a t) : WordAt H' a t := e _ _ (by simpa using n) h
def spTags : Sp := fun vs H Q _ => ∃ (p : Addr) (m : Nat), vs = [.ref p, .int (m : Int)] ∧ 1 ≤ m ∧ m ≤ 6 ∧ PileAt H p ∧ ∀ (tags : Word) (q : Addr) (H' : Hp), TagsOk tags → tags.length = m → Exc [p] H H' → PileAt H' p → H q = none → WordAt H' q tags → Q (.ref q) H'
theorem ok__law_tags (X : TX K mg) : FnOk P w K mg base CX0 3 X.d__law_tags.a X.d__law_tags.fd ["pile", "many"] spTags := by
  have nd := sc__law_tags.nd
  refine X.d__law_tags.F.ok sc__law_tags (fun vs H Q E h => ?_) (fun cdv A outer s H vs Q E hr h => ?_)
  · obtain ⟨p, m, rfl, _⟩ := h
    rfl
  · obtain ⟨p, m, rfl, m0, m1, hp, q⟩ := h
    refine ⟨_, (pss_cons (ps_set (i := 2) nd rfl (Or.inr rfl) pe_str) (pss_cons (ps_if (pt_cmpR op_eq (pe_call (ok__law_take X) (hr.mono (by decide)) rfl X.d__law_take.mg X.d__law_take.F.kp X.d__law_take.b .nil pass0 (pa_cons (pv 0) (pa_cons pe_int pa_nil))) pe_int (nomark _)) (pss_cons (ps_set (i := 3) nd rfl (Or.inl rfl) (pe_lst (pa_cons pe_str (pa_cons pe_str (pa_cons pe_str (pa_cons pe_str (pa_cons pe_str (pa_cons pe_str (pa_cons pe_str (pa_cons pe_str (pa_cons pe_str (pa_cons pe_str (pa_cons pe_str pa_nil))))))))))))) (pss_cons (ps_set (i := 4) nd rfl (Or.inr rfl) (pe_call (ok__law_take X) (hr.mono (by decide)) rfl X.d__law_take.mg X.d__law_take.F.kp X.d__law_take.b .nil pass0 (pa_cons (pv 0) (pa_cons pe_int pa_nil)))) (pss_one (ps_ret (pe_slice (QB.sl_listK K) (pv 3) (po_some (pv 4)) (po_some (pe_op op_add (pv 4) (pv 1)))))))) pss_nil) (pss_cons (ps_set (i := 5) nd rfl (Or.inr rfl) (pe_join pe_str (pe_lc (own := [("k", 8)]) (g := gName 8) (tt := tYes) rfl nd (pi_range1 (by rfl) X.n_range (pa_cons (pe_call (ok__law_take X) (hr.mono (by decide)) rfl X.d__law_take.mg X.d__law_take.F.kp X.d__law_take.b .nil pass0 (pa_cons (pv 0) (pa_cons pe_int pa_nil))) pa_nil)) (blkOk_by (N := ["pile", "many", "letters", "plain", "at", "stem", "shift", "pace", "k"]) (sc := defScope s__law_tags) (by decide +kernel)) (fun _ _ _ _ _ => pg_name (i := 8) nd rfl (Or.inl rfl)) (fun _ _ _ _ _ => pts_nil) (fun _ _ _ _ _ => (pe_item_str (pv 2) (pe_call (ok__law_take X) (hr.mono (by decide)) rfl X.d__law_take.mg X.d__law_take.F.kp X.d__law_take.b .nil pass0 (pa_cons (pv 0) (pa_cons pe_int pa_nil))) (fun _ _ => rfl)))))) (pss_cons (ps_set (i := 4) nd rfl (Or.inr rfl) (pe_call (ok__law_take X) (hr.mono (by decide)) rfl X.d__law_take.mg X.d__law_take.F.kp X.d__law_take.b .nil pass0 (pa_cons (pv 0) (pa_cons (pe_op op_add (pe_callB call_len_str (by rfl) X.n_len PySem.boot_len (pa_cons (pv 5) pa_nil)) pe_int) pa_nil)))) (pss_cons (ps_set (i := 6) nd rfl (Or.inr rfl) (pe_call (ok__law_take X) (hr.mono (by decide)) rfl X.d__law_take.mg X.d__law_take.F.kp X.d__law_take.b .nil pass0 (pa_cons (pv 0) (pa_cons pe_int pa_nil)))) (pss_cons (ps_set (i := 7) nd rfl (Or.inr rfl) (pe_ix (QB.ix_listK K) (pe_lst (pa_cons pe_int (pa_cons pe_int (pa_cons pe_int (pa_cons pe_int (pa_cons pe_int (pa_cons pe_int (pa_cons pe_int (pa_cons pe_int (pa_cons pe_int (pa_cons pe_int (pa_cons pe_int (pa_cons pe_int pa_nil))))))))))))) (pe_call (ok__law_take X) (hr.mono (by decide)) rfl X.d__law_take.mg X.d__law_take.F.kp X.d__law_take.b .nil pass0 (pa_cons (pv 0) (pa_cons pe_int pa_nil))) (fun _ _ => rfl))) (pss_one (ps_ret (pe_lc (own := [("k", 8)]) (g := gName 8) (tt := tYes) rfl nd (pi_range1 (by rfl) X.n_range (pa_cons (pv 1) pa_nil)) (blkOk_by (N := ["pile", "many", "letters", "plain", "at", "stem", "shift", "pace", "k"]) (sc := defScope s__law_tags) (by decide +kernel)) (fun _ _ _ _ _ => pg_name (i := 8) nd rfl (Or.inl rfl)) (fun _ _ _ _ _ => pts_nil) (fun _ _ _ _ _ => (pe_op op_add_str (pe_op op_add_str (pe_slice sl_str (pv 5) po_none (po_some (pv 4))) (pe_item_str (pv 2) (pe_op op_mod (pe_op op_add (pv 6) (pe_op op_mul (pv 7) (pv 8))) pe_int) (fun _ _ => rfl))) (pe_slice sl_str (pv 5) (po_some (pv 4)) po_none)))))))))))), ?_⟩
    try dsimp only [Cx.nox, Cx.wish, cxOf]
    -- the plain names
    refine ⟨_, rfl, p, 2, rfl, by decide, by decide, hp, fun r0 H0 hr0 x0 p0 => ?_⟩
    refine ⟨rfl, _, rfl, ?_⟩
    generalize decide (V.int (r0 : Int) = V.int 0) = b0
    cases b0
    case' true =>
      refine iteT ?_
      refine ⟨by show 11 ≤ sizeLine; decide, fun t2 ht2 => ?_⟩
      have s6 : Same H0 (upd H0 t2 (.lst (vS plains))) := same_new ht2
      have h6 : (upd H0 t2 (.lst (vS plains))) t2 = some (.lst (vS plains)) := upd_same
      have e6 : upd H0 t2 (.lst (vS plains)) = upd H0 t2 (.lst [V.str (Str.ofString "re"), V.str (Str.ofString "fwd"), V.str (Str.ofString "list"), V.str (Str.ofString "aw"), V.str (Str.ofString "r"), V.str (Str.ofString "ext"), V.str (Str.ofString "re"), V.str (Str.ofString "fwd"), V.str (Str.ofString "list"), V.str (Str.ofString "aw"), V.str (Str.ofString "r")]) := rfl
      generalize upd H0 t2 (.lst (vS plains)) = H6 at s6 h6 e6
      rw [← e6]
      clear e6
      refine ⟨_, rfl, p, 6, rfl, by decide, by decide, p0.same s6, fun k H7 hk x7 p7 => ?_⟩
      have h7 : WordAt H7 t2 plains := wordEx x7 ((p0.same s6).ne2 h6) h6
      refine ⟨_, rfl, _, rfl, _, rfl, _, rfl, _, rfl, _, _, rfl, rfl, _, rfl, t2, _, rfl, SqL.of h7, fun t3 ht3 => ?_⟩
      rw [cut_both (by rw [vS_len]; show k + m ≤ 11; omega), vS_drop, vS_take]
      have s8 := same_new (o := .lst (vS ((plains.drop k).take m))) ht3
      have xz := (x0.trans (.of s6)).trans x7
      exact q _ t3 _ (plains_tags hk m0 m1) (plains_len _ hk _ (by omega) (.inr (by omega))) (xz.trans (.of s8)) (p7.same s8) (hp.free xz p7 ht3) upd_same
    refine iteF ?_
    refine ⟨⟨_, rfl⟩, _, rfl, ?_⟩
    refine ⟨p, 8, rfl, by decide, by decide, p0, fun r H1 hr1 x1 p1 => ?_⟩
    refine ⟨_, rfl, by omega, by omega, fun D hD => ?_⟩
    have hDp : D ≠ p := fun z => by
      subst z
      obtain ⟨_, _, _, h⟩ := p1
      rw [h] at hD
      cases hD
    refine lc_it (walk_range (lo := 0) (n := r)) (fun i H' => Exc [p] H1 H' ∧ PileAt H' p ∧ ∃ ys : List Nat, ys.length = i ∧ H' D = some (.lst (ys.map fun y => V.str ⟨#[97 + y]⟩)) ∧ ∀ y ∈ ys, y < 26)
      ⟨Exc.refl.mut (.inr hD), p1.upd hDp.symm, [], rfl, upd_same, fun _ h => nomatch h⟩ (fun _ _ _ _ => True.intro) ?_ ?_
    · rintro i x H2 H3 hi ⟨x2, p2, ys, hl, hDl, hy⟩ ⟨rfl, rfl⟩
      refine ⟨rfl, _, rfl, _, rfl, ?_⟩
      refine ⟨p, 26, rfl, by decide, by decide, p2, fun r2 H4 hr2 x4 p4 => ?_⟩
      refine ⟨abc, _, _, rfl, rfl, by omega, by omega, by rw [abc_len]; omega, abc_item (by omega) (by omega), ?_⟩
      have hD4 := x4 D _ (by simpa using hDp) hDl
      refine ⟨_, hD4, by rw [List.length_map]; exact sz_lt (by omega), (x2.trans x4).mut (.inr hD), p4.upd hDp.symm, ys ++ [r2], by rw [List.length_append, hl]; rfl, ?_, ?_⟩
      · rw [upd_same, List.map_append]
        rfl
      · intro y hy'
        rcases List.mem_append.mp hy' with h | h
        · exact hy y h
        · rw [List.mem_singleton.mp h]
          exact hr2
    · rintro H2 ⟨x2, p2, ys, hl, hDl, hy⟩
      have hys : ys.map (fun y => V.str ⟨#[97 + y]⟩) = (ys.map fun y => (⟨#[97 + y]⟩ : Str)).map V.str := by rw [List.map_map]; rfl
      rw [hys] at hDl
      refine ⟨_, D, ys.map fun y => (⟨#[97 + y]⟩ : Str), rfl, rfl, .inl (SqL.of hDl), ?_, ?_⟩
      · rw [sum_ones, List.length_map]
        show ys.length + ys.length * 0 ≤ 16777216
        omega
      have hw : tl (Txt.join (Str.ofString "") (ys.map fun y => (⟨#[97 + y]⟩ : Str))) = ys.map (97 + ·) := by
        rw [show Str.ofString "" = Str.empty from rfl, tl_join0, List.map_map]
        clear hDl hys hl hy
        induction ys with
        | nil => rfl
        | cons y ys ih =>
          rw [List.map_cons, List.flatten_cons, ih]
          rfl
      generalize Txt.join (Str.ofString "") (ys.map fun y => (⟨#[97 + y]⟩ : Str)) = w at hw ⊢
      have hwl : w.length = r := by
        rw [len_tl w, show (tl w).length = (ys.map (97 + ·)).length from congrArg List.length hw, List.length_map]
        exact hl
      have hwc : ∀ c ∈ tl w, 97 ≤ c ∧ c < 123 := fun c hc => by
        rw [hw] at hc
        obtain ⟨y, hy', rfl⟩ := List.mem_map.mp hc
        have := hy y hy'
        omega
      have xA := x1.trans x2
      clear hw hys hDl hy
      show tSeq _ _ _ _ _
      have hsz : w.length ≤ sizeLine := by rw [hwl]; exact Nat.le_trans (Nat.le_of_lt hr1) (by decide)
      refine ⟨_, rfl, _, rfl, w, rfl, hsz, _, _, rfl, rfl, ?_⟩
      refine ⟨p, w.length + 1, rfl, by omega, by omega, p2, fun at_ H3 hat x3 p3 => ?_⟩
      refine ⟨_, rfl, p, 26, rfl, by decide, by decide, p3, fun sh H4 hsh x4 p4 => ?_⟩
      refine ⟨by show 12 ≤ sizeLine; decide, fun t1 ht1 => ?_⟩
      have s5 := same_new (o := .lst (paces.map fun n : Nat => V.int (n : Int))) ht1
      refine ⟨_, rfl, p, 12, rfl, by decide, by decide, p4.same s5, fun pi H5 hpi x5 p5 => ?_⟩
      have hpl : paces[pi]? = some (paces[pi]'hpi) := List.getElem?_eq_getElem hpi
      have hpm : paces[pi]'hpi ∈ paces := List.getElem_mem hpi
      have ht1p := p4.ne ht1
      refine ⟨t1, _, _, V.int ((paces[pi]'hpi : Nat) : Int), rfl, rfl, SqL.of (x5 t1 _ (by simpa using ht1p.symm) upd_same), atI_nat (by
        show (paces.map fun n : Nat => V.int (n : Int))[pi]? = _
        rw [List.getElem?_map, hpl]
        rfl), ?_⟩
      generalize paces[pi]'hpi = pc at hpm hpl ⊢
      have xB := (((xA.trans x3).trans x4).trans (.of s5)).trans x5
      clear s5 x5 hpl ht1p ht1 xA x3 x4 p3 p4 p2 x2 p1 x1 hD
      dsimp only [gName]
      generalize hσ : List.set _ 7 _ = σ6
      have eσ : σ6 = [some (.ref p), some (.int (m : Int)), some (.str abc), none, some (.int (at_ : Int)), some (.str w), some (.int (sh : Int)), some (.int (pc : Int)), none] := by
        rw [← hσ]
        rfl
      subst eσ
      clear hσ
      refine ⟨_, rfl, (m : Int), rfl, by omega, by omega, fun D2 hD2 => ?_⟩
      refine lc_map (walk_range (lo := 0) (n := m)) hD2 (by omega) (fun _ _ => True.intro) (fun i => .str (nameOf w at_ sh pc i)) ?_ ?_
      · rintro i x H6 H7 kk hi s6 ⟨rfl, rfl⟩ hk
        have hv : ((sh : Int) + (pc : Int) * (0 + (i : Nat))) % 26 = (((sh + pc * i) % 26 : Nat) : Int) := by
          rw [Int.zero_add, ← Int.natCast_mul, ← Int.natCast_add]
          omega
        have hc := cut_lens w at_
        refine ⟨rfl, ?_⟩
        refine ⟨_, rfl, _, rfl, _, rfl, w, rfl, hsz, ?_⟩
        refine ⟨_, rfl, _, rfl, _, rfl, _, rfl, _, _, rfl, rfl, ?_, _, _, rfl, rfl, _, _, rfl, rfl, by show (0 : Int) < 26; decide, ?_⟩
        · refine .inl ⟨?_, ?_⟩
          · show -(2 ^ 64) < (pc : Int)
            omega
          · show (pc : Int) < 2 ^ 64
            have : ∀ c ∈ paces, c < 100 := by decide
            have := this pc hpm
            omega
        have hlt : (sh + pc * i) % 26 < 26 := Nat.mod_lt _ (by decide)
        refine ⟨abc, (((sh + pc * i) % 26 : Nat) : Int), 97 + (sh + pc * i) % 26, rfl, congrArg V.int hv, by omega, by omega, by rw [abc_len]; omega, abc_item (by omega) (by omega), ?_⟩
        refine ⟨_, _, rfl, rfl, ?_, ?_⟩
        · show _ + 1 ≤ sizeLine
          exact sz_le (by omega)
        refine ⟨_, rfl, _, rfl, _, rfl, w, rfl, hsz, ?_⟩
        refine ⟨_, _, rfl, rfl, ?_, ?_⟩
        · rw [len_add]
          show _ + 1 + _ ≤ sizeLine
          exact sz_le (by omega)
        exact hk _ (Same.refl _)
      · intro H6 s6 e6
        have tg := names_tags (w := w) (at_ := at_) (sh := sh) (pc := pc) (m := m) (by omega) hwc hsh hpm m0 m1
        refine q ((List.range m).map fun i => nameOf w at_ sh pc i) D2 H6 tg (by rw [List.length_map, List.length_range]) ((x0.trans xB).trans (.of s6)) (p5.same s6) (hp.free (x0.trans xB) p5 hD2) ?_
        unfold WordAt vS
        rw [List.map_map]
        exact e6
end
end Law
end

section
set_option Elab.async false
set_option linter.all false
set_option maxRecDepth 100000
set_option maxHeartbeats 4000000
namespace Law
open PySem PySem.Spec PyProof.Rows L2 LamX QB QM
section
variable {P : Program} {w : World} {K : PySem.W.Frag} {mg : Str → Option Value} {base : Heap}
theorem wordExc {H H' : Hp} {p a : Addr} {t : Word} (e : Exc [p] H H') (n : a ≠ p) (h : WordAt H a t) : WordAt H' a t := e _ _ (by simpa using n) h
theorem PileAt.word {H : Hp} {p a : Addr} {t : Word} (h : PileAt H p) (ha : WordAt H a t) : a ≠ p := fun z => by
  subst z
  obtain ⟨_, _, _, h⟩ := h
  unfold WordAt at ha
  rw [h] at ha
  injection ha with ha
  injection ha with ha
  cases t with
  | nil => cases ha
  | cons => cases ha
def spWord : Sp := fun vs H Q _ => ∃ (p a : Addr) (tags : Word) (most : Nat), vs = [.ref p, .ref a, .int (most : Int)] ∧ most ≤ 900 ∧ PileAt H p ∧ WordAt H a tags ∧ TagsOk tags ∧
  ∀ (wd : Word) (q : Addr) (H' : Hp), (∀ t ∈ wd, t ∈ tags) → wd.length ≤ most → Exc [p] H H' → PileAt H' p → H q = none → WordAt H' q wd → Q (.ref q) H'
theorem ok__law_word (X : TX K mg) : FnOk P w K mg base CX0 3 X.d__law_word.a X.d__law_word.fd ["pile", "tags", "most"] spWord := by
  have nd := sc__law_word.nd
  refine X.d__law_word.F.ok sc__law_word (fun vs H Q E h => ?_) (fun cdv A outer s H vs Q E hr h => ?_)
  · obtain ⟨p, a, tags, most, rfl, _⟩ := h
    rfl
  · obtain ⟨p, a, tags, most, rfl, m1, hp, ha, to, k⟩ := h
    refine ⟨_, (pss_one (ps_ret (pe_lc (own := [("turn", 3)]) (g := gName 3) (tt := tYes) rfl nd (pi_range1 (by rfl) X.n_range (pa_cons (pe_call (ok__law_take X) (hr.mono (by decide)) rfl X.d__law_take.mg X.d__law_take.F.kp X.d__law_take.b .nil pass0 (pa_cons (pv 0) (pa_cons (pe_op op_add (pv 2) pe_int) pa_nil))) pa_nil)) (blkOk_by (N := ["pile", "tags", "most", "turn"]) (sc := defScope s__law_word) (by decide +kernel)) (fun _ _ _ _ _ => pg_name (i := 3) nd rfl (Or.inl rfl)) (fun _ _ _ _ _ => pts_nil) (fun _ _ _ _ _ => (pe_ix (QB.ix_listK K) (pv 1) (pe_call (ok__law_take X) (hr.mono (by decide)) rfl X.d__law_take.mg X.d__law_take.F.kp X.d__law_take.b .nil pass0 (pa_cons (pv 0) (pa_cons (pe_callB (QB.call_lenK K) (by rfl) X.n_len PySem.boot_len (pa_cons (pv 1) pa_nil)) pa_nil))) (fun _ _ => rfl)))))), ?_⟩
    try dsimp only [Cx.nox, Cx.wish, cxOf]
    have ap := hp.word ha
    refine ⟨_, rfl, _, rfl, _, _, rfl, rfl, ?_⟩
    refine ⟨p, most + 1, rfl, by omega, by omega, hp, fun r2 H4 hr2 x4 p4 => ⟨_, rfl, by omega, by omega, fun W hW => ?_⟩⟩
    have hWp := p4.ne hW
    have ha4 := wordExc x4 ap ha
    refine lc_it (walk_range (lo := 0) (n := r2)) (fun i H' => Exc [p] H4 H' ∧ PileAt H' p ∧ ∃ ys : Word, ys.length = i ∧ WordAt H' W ys ∧ ∀ t ∈ ys, t ∈ tags)
      ⟨Exc.refl.mut (.inr hW), p4.upd hWp, [], rfl, upd_same, fun _ h => nomatch h⟩ (fun _ _ _ _ => True.intro) ?_ ?_
    · rintro j x H5 H6 hj ⟨x5, p5, ys, hl, hWl, hy⟩ ⟨rfl, rfl⟩
      refine ⟨rfl, _, rfl, _, rfl, ?_⟩
      have ha5 := wordExc x5 ap ha4
      refine ⟨_, rfl, _, _, rfl, .inl (SqL.of ha5), ?_⟩
      have h1 := to.pos
      have h2 := to.len
      refine ⟨p, tags.length, by rw [vS_len]; rfl, by omega, by omega, p5, fun r3 H7 hr3 x7 p7 => ?_⟩
      have e3 : tags[r3]? = some (tags[r3]'hr3) := List.getElem?_eq_getElem hr3
      refine ⟨a, _, _, _, rfl, rfl, SqL.of (wordExc x7 ap ha5), atI_nat (vS_get e3), ?_⟩
      have hW7 := wordExc x7 hWp.symm hWl
      refine ⟨_, hW7, by rw [vS_len]; exact sz_lt (by omega), (x5.trans x7).mut (.inr hW), p7.upd hWp, ys ++ [tags[r3]'hr3], by rw [List.length_append, hl]; rfl, ?_, ?_⟩
      · unfold WordAt
        rw [upd_same, ← vS_append]
        rfl
      · intro t ht
        rcases List.mem_append.mp ht with h | h
        · exact hy t h
        · rw [List.mem_singleton.mp h]
          exact List.getElem_mem hr3
    · rintro H5 ⟨x5, p5, wd, hwl, hWd, hwt⟩
      exact k wd W H5 hwt (by omega) (x4.trans x5) p5 (hp.free x4 p4 hW) hWd
end
end Law
end

section
set_option Elab.async false
set_option linter.all false
set_option maxRecDepth 100000
set_option maxHeartbeats 4000000
namespace Law
open PySem PySem.Spec PyProof.Rows L2 LamX QB QM TL QT
theorem str_tl {x y : Str} (h : tl x = tl y) : x = y := by
  have e := map_tl_inj (l := [x]) (m := [y]) (by rw [List.map_singleton, List.map_singleton, h])
  exact (List.cons.inj e).1
/-- the words, a space ahead of each -/
def spaced (wd : Word) : Str := wd.foldl (fun x t => x ++ Str.ofString " " ++ t) Str.empty
theorem tl_spaced_from : ∀ (wd : Word) (x : Str), tl (wd.foldl (fun x t => x ++ Str.ofString " " ++ t) x) = tl x ++ (wd.map fun t => 32 :: tl t).flatten
  | [], x => by simp
  | t :: wd, x => by
    have e : tl (Str.ofString " ") = [32] := by decide +kernel
    rw [List.foldl_cons, tl_spaced_from wd, tl_append, tl_append, e, List.map_cons, List.flatten_cons]
    simp
theorem joinL_one (p : List Nat) : ∀ l : List (List Nat), joinL [32] (p :: l) = p ++ (l.map fun q => 32 :: q).flatten
  | [] => by simp [joinL]
  | q :: l => by
    rw [joinL, joinL_one q l, List.map_cons, List.flatten_cons]
    simp
theorem tl_empty : tl Str.empty = [] := by decide +kernel
theorem spaced_cut {wd : Word} (h : wd ≠ []) : cutS (spaced wd) (some 1) none = Txt.join (Str.ofString " ") wd := by
  refine str_tl ?_
  have e : tl (Str.ofString " ") = [32] := by decide +kernel
  rw [show cutS (spaced wd) (some 1) none = cutS (spaced wd) (some ((1 : Nat) : Int)) none from rfl, tl_cutR, join_eq, tl_join, e]
  unfold spaced
  rw [tl_spaced_from, tl_empty, List.nil_append]
  cases wd with
  | nil => exact absurd rfl h
  | cons t wd =>
    rw [List.map_cons, List.flatten_cons, List.map_cons, joinL_one, List.map_map]
    rfl
theorem spaced_len_from : ∀ (wd : Word) (x : Str), (wd.foldl (fun x t => x ++ Str.ofString " " ++ t) x).length = x.length + ((wd.map (·.length)).sum + wd.length)
  | [], x => by simp
  | t :: wd, x => by
    rw [List.foldl_cons, spaced_len_from wd, len_add, len_add, List.map_cons, List.sum_cons, List.length_cons]
    have : (Str.ofString " ").length = 1 := by decide
    omega
theorem spaced_len (wd : Word) : (spaced wd).length = (wd.map (·.length)).sum + wd.length := by
  unfold spaced
  rw [spaced_len_from]
  have : Str.empty.length = 0 := by decide
  omega
section
variable {P : Program} {w : World} {K : PySem.W.Frag} {mg : Str → Option Value} {base : Heap}
def spLWritten : Sp := fun vs H Q _ => ∃ (a : Addr) (wd : Word), vs = [.ref a] ∧ WordAt H a wd ∧ OkWord wd ∧ ShortW wd ∧ ∀ H', Same H H' → Q (.str (writ wd)) H'
theorem ok__law_written (X : TX K mg) : FnOk P w K mg base CX0 1 X.d__law_written.a X.d__law_written.fd ["subject"] spLWritten := by
  have nd := sc__law_written.nd
  refine X.d__law_written.F.ok sc__law_written (fun vs H Q E h => ?_) (fun cdv A outer s H vs Q E hr h => ?_)
  · obtain ⟨a, wd, rfl, _⟩ := h
    rfl
  · obtain ⟨a, wd, rfl, ha, ok, hs, k⟩ := h
    refine ⟨_, (pss_cons (ps_set (i := 1) nd rfl (Or.inl rfl) pe_str) (pss_cons (ps_for PassesOwn.never rfl (QB.pi_listK K (pv 0)) (pg_name (i := 2) nd rfl (Or.inl rfl)) (pss_one (ps_set (i := 1) nd rfl (Or.inl rfl) (pe_op op_add_str (pe_op op_add_str (pv 1) pe_str) (pv 2))))) (pss_one (ps_ret (pe_ix (QB.ix_listK K) (pe_lst (pa_cons (pe_slice sl_str (pv 1) (po_some pe_int) po_none) (pa_cons pe_str pa_nil))) (pe_callTy call_int1 (by rfl) X.n_int QB.bo_int (pa_cons (pe_cmpR (QB.op_eqDK K hr.units) (pv 0) (pe_lst pa_nil) (nomark _)) pa_nil)) (fun _ _ => rfl)))))), ?_⟩
    try dsimp only [Cx.nox, Cx.wish, cxOf]
    unfold ShortW at hs
    refine ⟨_, rfl, _, rfl, ⟨_, SqL.of ha⟩, ?_⟩
    refine for_it (walk_listW (K := K) (a := a) (w := wd)) (fun i σ H' => ∃ v2 : Option V, σ = [some (.ref a), some (.str (spaced (wd.take i))), v2] ∧ H' = H)
      ⟨none, rfl, rfl⟩ (fun i σ H' _ ⟨_, _, e⟩ => e ▸ ha) ?_ ?_
    · rintro i x σ H1 H2 hi ⟨v2, rfl, rfl⟩ ⟨t, ht, rfl, rfl⟩
      have e : spaced (wd.take (i + 1)) = spaced (wd.take i) ++ Str.ofString " " ++ t := by
        unfold spaced
        rw [List.take_succ, ht, List.foldl_append]
        rfl
      have hb : (spaced (wd.take i)).length ≤ 100000 := by
        rw [spaced_len]
        have e2 := congrArg (fun l : Word => (l.map (·.length)).sum + l.length) (List.take_append_drop i wd)
        try dsimp only at e2
        rw [List.map_append, List.sum_append, List.length_append] at e2
        omega
      have ht1 : t.length ≤ 100000 := by
        have e2 := congrArg (fun l : Word => (l.map (·.length)).sum) (List.take_append_drop (i + 1) wd)
        try dsimp only at e2
        rw [List.take_succ, ht, List.map_append, List.map_append, List.sum_append, List.sum_append] at e2
        simp at e2
        omega
      have h1 : (Str.ofString " ").length = 1 := by decide
      have hz : sizeLine = 16777216 := sizeLine_eq
      refine ⟨_, rfl, _, _, rfl, rfl, by omega, _, rfl, _, _, rfl, rfl, by rw [len_add]; omega, ?_⟩
      rw [← e]
      exact ⟨_, rfl, rfl⟩
    · rintro σ H1 ⟨v2, rfl, rfl⟩
      rw [List.take_length]
      have hz : sizeLine = 16777216 := sizeLine_eq
      have hl := spaced_len wd
      refine ⟨_, rfl, _, rfl, _, rfl, by omega, by show 2 ≤ sizeLine; decide, fun t ht => ?_⟩
      have s1 := same_new (o := .lst [V.str (cutS (spaced wd) (some 1) none), V.str (Str.ofString "-")]) ht
      have k1 : (upd H1 t (.lst [V.str (cutS (spaced wd) (some 1) none), V.str (Str.ofString "-")])) t = some (.lst [V.str (cutS (spaced wd) (some 1) none), V.str (Str.ofString "-")]) := upd_same
      generalize upd H1 t (.lst [V.str (cutS (spaced wd) (some 1) none), V.str (Str.ofString "-")]) = H2 at s1 k1 ⊢
      refine ⟨_, rfl, by show 0 ≤ sizeLine; decide, fun e he => ?_⟩
      have s2 := same_new (o := .lst ([] : List V)) he
      refine eq_wd (w := []) (Same.word (s1.trans s2) ha) upd_same ok (fun _ h => nomatch h) ?_
      refine .inr ⟨_, rfl, ?_⟩
      unfold writ at k
      by_cases hw : wd = []
      · rw [decide_eq_true hw]
        rw [if_pos hw] at k
        exact ⟨t, _, _, _, rfl, rfl, SqL.of (s2 _ _ k1), rfl, k _ (s1.trans s2)⟩
      · rw [decide_eq_false hw]
        rw [if_neg hw] at k
        refine ⟨t, _, _, _, rfl, rfl, SqL.of (s2 _ _ k1), rfl, ?_⟩
        rw [spaced_cut hw]
        exact k _ (s1.trans s2)
end
end Law
end

section
set_option Elab.async false
set_option linter.all false
set_option maxRecDepth 100000
set_option maxHeartbeats 4000000
namespace Law
open PySem PySem.Spec PyProof.Rows L2 LamX QB QM TL QT
theorem sub_ok {tags wd : Word} (to : TagsOk tags) (h : ∀ t ∈ wd, t ∈ tags) : OkWord wd := fun t ht => to.ok t (h t ht)
theorem spl_mem {b : List Nat} : ∀ (a : List Nat) (k : Nat) (acc p : List Nat), p ∈ spl b k acc a → ∀ c ∈ p, c ∈ acc ∨ c ∈ a
  | [], k, acc, p, hp, c, hc => by
    rw [spl_nil, List.mem_singleton] at hp
    subst hp
    exact .inl hc
  | x :: a, 0, acc, p, hp, c, hc => by
    unfold spl at hp
    by_cases h : pre b (x :: a) = true
    · rw [if_pos h] at hp
      rcases List.mem_cons.mp hp with h2 | h2
      · subst h2
        exact .inl hc
      · rcases spl_mem a _ _ p h2 c hc with h3 | h3
        · cases h3
        · exact .inr (List.mem_cons_of_mem _ h3)
    · rw [if_neg h] at hp
      rcases spl_mem a _ _ p hp c hc with h3 | h3
      · rcases List.mem_append.mp h3 with h4 | h4
        · exact .inl h4
        · rw [List.mem_singleton.mp h4]
          exact .inr List.mem_cons_self
      · exact .inr (List.mem_cons_of_mem _ h3)
  | x :: a, k + 1, acc, p, hp, c, hc => by
    unfold spl at hp
    rcases spl_mem a _ _ p hp c hc with h3 | h3
    · exact .inl h3
    · exact .inr (List.mem_cons_of_mem _ h3)
/-- a text of signs that there are -/
theorem split_ok {t : Str} (h : PyData.strOk t = true) : OkWord (Txt.split t (Str.ofString " ")) := fun u hu => by
  have e : tl (Str.ofString " ") = [32] := by decide +kernel
  have key := split_spl t (Str.ofString " ") (by rw [e]; exact fun z => nomatch z) (kind_ok (by decide +kernel))
  have hm : tl u ∈ spl (tl (Str.ofString " ")) 0 [] (tl t) := by
    rw [← key]
    exact List.mem_map.mpr ⟨u, hu, rfl⟩
  unfold PyData.strOk at h ⊢
  rw [← Array.all_toList, List.all_eq_true] at h ⊢
  intro c hc
  rcases spl_mem _ _ _ _ hm c hc with h2 | h2
  · cases h2
  · exact h c h2
section
variable {P : Program} {w : World} {K : PySem.W.Frag} {mg : Str → Option Value} {base : Heap}
def SubjDue (K : PySem.W.Frag) (H : Hp) (tags : Word) (y : V) (s : Str) (d : PyData) : Prop := (∃ iv, WrongW K H tags 200 y iv ∧ s = "subject" ∧ d = ivD iv) ∨
  ∃ (b : Addr) (wd : Word), y = .ref b ∧ WordAt H b wd ∧ wd.length ≤ 200 ∧ (∀ t ∈ wd, t ∈ tags) ∧ s = "text of" ∧ d = .str (writ wd)
theorem ivD_none : ivD .non = .none := rfl
def spSubjDue (K : PySem.W.Frag) : Sp := fun vs H Q _ => ∃ (a : Addr) (tags : Word) (y : V) (s : Str) (d : PyData), vs = [.ref a, y] ∧ WordAt H a tags ∧ TagsOk tags ∧ SubjDue K H tags y s d ∧ ∀ p H', Same H H' → H p = none → ToldAt K H' p s d → Q (.ref p) H'
theorem ok__law_subject_due (X : TX K mg) : FnOk P w K mg base CX0 2 X.d__law_subject_due.a X.d__law_subject_due.fd ["tags", "subject"] (spSubjDue K) := by
  have nd := sc__law_subject_due.nd
  refine X.d__law_subject_due.F.ok sc__law_subject_due (fun vs H Q E h => ?_) (fun cdv A outer s0 H vs Q E hr h => ?_)
  · obtain ⟨a, tags, y, s, d, rfl, _⟩ := h
    rfl
  · obtain ⟨a, tags, y, s, d, rfl, ha, to, h, k⟩ := h
    refine ⟨_, (pss_cons (ps_if (PW.pt (pw_or (pt_not (pt_val (pe_callB (QB.call_isiK K) (by rfl) X.n_isinstance QB.bo_isinstance (pa_cons (pv 1) (pa_cons (pe_bltn (v := .ty "list") (by rfl) X.n_list QB.bo_list rfl) pa_nil))))) (pw_or1 (pt_cmpR op_gt (pe_callB (QB.call_lenK K) (by rfl) X.n_len PySem.boot_len (pa_cons (pv 1) pa_nil)) pe_int (nomark _))))) (pss_one (ps_ret (pe_lst (pa_cons pe_str (pa_cons pe_non pa_nil))))) pss_nil) (pss_cons (ps_for PassesOwn.never rfl (QB.pi_enumK K (by rfl) X.n_enumerate (pa_cons (pv 1) pa_nil)) (pg_tup (by rfl) (pgs_cons (pg_name (i := 2) nd rfl (Or.inl rfl)) (pgs_cons (pg_name (i := 3) nd rfl (Or.inl rfl)) (pgs_nil)))) (pss_one (ps_if (PW.pt (pw_or (pt_not (pt_val (pe_callB (QB.call_isiK K) (by rfl) X.n_isinstance QB.bo_isinstance (pa_cons (pv 3) (pa_cons (pe_bltn (v := .ty "str") (by rfl) X.n_str QB.bo_str rfl) pa_nil))))) (pw_or1 (pt_cmpR (QB.op_notInK K) (pv 3) (pv 0) rfl)))) (pss_one (ps_ret (pe_lst (pa_cons pe_str (pa_cons (pv 2) pa_nil))))) pss_nil))) (pss_one (ps_ret (pe_lst (pa_cons pe_str (pa_cons (pe_call (ok__law_written X) (hr.mono (by decide)) rfl X.d__law_written.mg X.d__law_written.F.kp X.d__law_written.b .nil pass0 (pa_cons (pv 1) pa_nil)) pa_nil))))))), ?_⟩
    try dsimp only [Cx.nox, Cx.wish, cxOf]
    have key : (NoL K H y ∧ s = "subject" ∧ d = .none) ∨ (∃ (b : Addr) (xs : List V), y = .ref b ∧ H b = some (.lst xs) ∧ 200 < xs.length ∧ s = "subject" ∧ d = .none) ∨
        ∃ (b : Addr) (xs : List V), y = .ref b ∧ H b = some (.lst xs) ∧ xs.length ≤ 200 ∧ (∀ v ∈ xs, Kd K H v) ∧
          (∀ (i : Nat) (z : V), xs[i]? = some z → valTag tags z = false → (∀ (j : Nat) (z : V), j < i → xs[j]? = some z → valTag tags z = true) → s = "subject" ∧ d = .int (i : Int)) ∧
          ((∀ (j : Nat) (z : V), xs[j]? = some z → valTag tags z = true) → ∃ wd : Word, WordAt H b wd ∧ wd.length ≤ 200 ∧ (∀ t ∈ wd, t ∈ tags) ∧ s = "text of" ∧ d = .str (writ wd)) := by
      rcases h with ⟨iv, h, rfl, rfl⟩ | ⟨b, wd, ey, hw, hl, hin, rfl, rfl⟩
      · rcases h with ⟨h1, rfl⟩ | ⟨b, xs, ey, h2, h3⟩
        · exact .inl ⟨h1, rfl, rfl⟩
        rcases h3 with ⟨h3, rfl⟩ | ⟨h3, h4, h5, i, z, i1, i2, i3, rfl⟩
        · exact .inr (.inl ⟨b, xs, ey, h2, by omega, rfl, rfl⟩)
        · refine .inr (.inr ⟨b, xs, ey, h2, by omega, h5, fun i' y' e1 e2 e3 => ?_, fun hall => ?_⟩)
          · have : i' = i := by
              rcases Nat.lt_trichotomy i' i with q | q | q
              · rw [i3 i' y' q e1] at e2
                cases e2
              · exact q
              · rw [e3 i z q i1] at i2
                cases i2
            subst this
            exact ⟨rfl, rfl⟩
          · rw [hall i z i1] at i2
            cases i2
      · refine .inr (.inr ⟨b, vS wd, ey, hw, by rw [vS_len]; exact hl, kd_words, fun i y e1 e2 e3 => ?_, fun _ => ⟨wd, hw, hl, hin, rfl, rfl⟩⟩)
        exfalso
        obtain ⟨t, ht, rfl⟩ := List.mem_map.mp (List.mem_of_getElem? e1)
        rw [show valTag tags (.str t) = decide (t ∈ tags) from rfl, decide_eq_true (hin t ht)] at e2
        cases e2
    clear h
    rcases key with ⟨⟨ty, h1, h2⟩, rfl, rfl⟩ | ⟨b, xs, rfl, hb, h3, rfl, rfl⟩ | ⟨b, xs, rfl, hb, hl, hkd, hbad, hall⟩
    · refine ⟨_, rfl, _, _, _, _, false, rfl, .ty "list", h1, h2, false, rfl, ?_⟩
      refine iteT ?_
      refine ⟨by show 2 ≤ sizeLine; decide, fun p hp => ?_⟩
      exact k p _ (same_new hp) hp ⟨_, upd_same, .non⟩
    · refine ⟨_, rfl, _, _, _, _, true, rfl, .ty "list", .base (.lst hb), kit_list_list, true, rfl, ?_⟩
      refine iteF ?_
      refine ⟨_, rfl, _, _, rfl, .inl (SqL.of hb), _, _, rfl, rfl, _, rfl, ?_⟩
      rw [decide_eq_true (by omega)]
      refine iteT ?_
      refine ⟨by show 2 ≤ sizeLine; decide, fun p hp => ?_⟩
      exact k p _ (same_new hp) hp ⟨_, upd_same, .non⟩
    refine ⟨_, rfl, _, _, _, _, true, rfl, .ty "list", .base (.lst hb), kit_list_list, true, rfl, ?_⟩
    refine iteF ?_
    refine ⟨_, rfl, _, _, rfl, .inl (SqL.of hb), _, _, rfl, rfl, _, rfl, ?_⟩
    rw [decide_eq_false (by omega)]
    refine iteF ?_
    refine ⟨_, rfl, _, _, rfl, SqL.of hb, ?_⟩
    refine for_it (walk_enum (K := K) (a := b) (xs := xs)) (fun i σ H' => ∃ v3 v4, σ = [some (.ref a), some (.ref b), v3, v4] ∧ Same H H' ∧ ∀ (j : Nat) (z : V), j < i → xs[j]? = some z → valTag tags z = true)
      ⟨none, none, rfl, Same.refl H, fun j z hj => by omega⟩ (fun i σ H' _ ⟨_, _, _, s1, _⟩ => SqL.of (s1 _ _ hb)) ?_ ?_
    · rintro i v σ H1 H2 hi ⟨v3, v4, rfl, s1, hno⟩ ⟨tp, x1, x2, rfl, ntp, rfl, e1, e2⟩
      have e1 : some (V.int (i : Int)) = some x1 := e1
      have e2 : xs[i]? = some x2 := e2
      cases e1
      have s2 := Same.new s1 (o := .tup [.int (i : Int), x2]) ntp
      refine ⟨tp, _, rfl, SqT.of upd_same, rfl, _, _, rfl, _, _, rfl, rfl, ?_⟩
      obtain ⟨ty, hty, hk⟩ := (hkd x2 (List.mem_of_getElem? e2)).same s2
      have bad : valTag tags x2 = false → ∀ (H3 : Hp), Same H H3 → ∀ p, H3 p = none → Q (.ref p) (upd H3 p (.lst [V.str "subject", .int (i : Int)])) := fun hv H3 s3 p hp => by
        obtain ⟨rfl, rfl⟩ := hbad i x2 e2 hv hno
        exact k p _ (Same.new s3 hp) (s3.free hp) ⟨_, upd_same, .int _⟩
      refine ⟨_, rfl, _, _, _, _, isS x2, rfl, .ty "str", hty, hk, isS x2, rfl, ?_⟩
      have hgo : valTag tags x2 = true → ∀ (j : Nat) (z : V), j < i + 1 → xs[j]? = some z → valTag tags z = true := fun hv j z hj hz2 => by
        rcases Nat.lt_or_ge j i with q | q
        · exact hno j z q hz2
        · have : j = i := by omega
          subst this
          rw [e2] at hz2
          cases hz2
          exact hv
      cases x2 with
      | str t =>
        refine iteF ?_
        refine ⟨_, rfl, _, rfl, a, vS tags, rfl, .inl (SqL.of (Same.word s2 ha)), rfl, vS_flat, _, rfl, ?_⟩
        rw [if_pos rfl, inV_word]
        by_cases ht : t ∈ tags
        · rw [decide_eq_true ht]
          refine iteF ?_
          exact ⟨_, _, rfl, s2, hgo (decide_eq_true ht)⟩
        · rw [decide_eq_false ht]
          refine iteT ?_
          exact ⟨_, rfl, by show 2 ≤ sizeLine; decide, fun p hp => bad (decide_eq_false ht) _ s2 p hp⟩
      | _ =>
        refine iteT ?_
        exact ⟨_, rfl, by show 2 ≤ sizeLine; decide, fun p hp => bad rfl _ s2 p hp⟩
    · rintro σ H1 ⟨v3, v4, rfl, s1, hno⟩
      obtain ⟨wd, hw, hwl, hin, rfl, rfl⟩ := hall fun j z hz2 => hno j z (List.getElem?_eq_some_iff.mp hz2).1 hz2
      refine ⟨_, rfl, b, wd, rfl, Same.word s1 hw, sub_ok to hin, ?_, fun H2 s2 => ?_⟩
      · have := short_in to hin
        unfold ShortW
        omega
      refine ⟨by show 2 ≤ sizeLine; decide, fun p hp => ?_⟩
      have s12 := s1.trans s2
      exact k p _ (Same.new s12 hp) (s12.free hp) ⟨_, upd_same, .str _⟩
def TextDue (K : PySem.W.Frag) (H : Hp) (tags : Word) (y : V) (s : Str) (d : PyData) : Prop := (isS y = false ∧ Kd K H y ∧ s = "line" ∧ d = .none) ∨
  ∃ t : Str, y = .str t ∧ t.length ≤ 10000 ∧ PyData.strOk t = true ∧ ((rd tags 200 t = none ∧ s = "line" ∧ d = .int 0) ∨ ∃ wd, rd tags 200 t = some wd ∧ s = "subject of" ∧ d = dWord wd)
def spTextDue (K : PySem.W.Frag) : Sp := fun vs H Q _ => ∃ (a : Addr) (tags : Word) (y : V) (s : Str) (d : PyData), vs = [.ref a, y] ∧ WordAt H a tags ∧ OkWord tags ∧ TextDue K H tags y s d ∧ ∀ p H', Same H H' → H p = none → ToldAt K H' p s d → Q (.ref p) H'
theorem ok__law_text_due (X : TX K mg) : FnOk P w K mg base CX0 1 X.d__law_text_due.a X.d__law_text_due.fd ["tags", "text"] (spTextDue K) := by
  have nd := sc__law_text_due.nd
  refine X.d__law_text_due.F.ok sc__law_text_due (fun vs H Q E h => ?_) (fun cdv A outer s0 H vs Q E hr h => ?_)
  · obtain ⟨a, tags, y, s, d, rfl, _⟩ := h
    rfl
  · obtain ⟨a, tags, y, s, d, rfl, ha, ok, h, k⟩ := h
    refine ⟨_, (pss_cons (ps_if (pt_not (pt_val (pe_callB (QB.call_isiK K) (by rfl) X.n_isinstance QB.bo_isinstance (pa_cons (pv 1) (pa_cons (pe_bltn (v := .ty "str") (by rfl) X.n_str QB.bo_str rfl) pa_nil))))) (pss_one (ps_ret (pe_lst (pa_cons pe_str (pa_cons pe_non pa_nil))))) pss_nil) (pss_cons (ps_if (pt_cmpR op_eq (pv 1) pe_str (nomark _)) (pss_one (ps_ret (pe_lst (pa_cons pe_str (pa_cons (pe_lst pa_nil) pa_nil))))) pss_nil) (pss_cons (ps_set (i := 2) nd rfl (Or.inl rfl) (pe_split (pv 1) pe_str)) (pss_cons (ps_if (PW.pt (pw_or (pt_cmpR op_gt (pe_callB (QB.call_lenK K) (by rfl) X.n_len PySem.boot_len (pa_cons (pv 2) pa_nil)) pe_int (nomark _)) (pw_or1 (pt_cmpR (QB.op_neDK K hr.units) (pe_lc (own := [("word", 3)]) (g := gName 3) rfl nd (QB.pi_listK K (pv 2)) (blkOk_by (N := ["tags", "text", "words", "word"]) (sc := defScope s__law_text_due) (by decide +kernel)) (fun _ _ _ _ _ => pg_name (i := 3) nd rfl (Or.inl rfl)) (fun _ _ _ _ _ => pts_one (pt_cmpR (QB.op_notInK K) (pv 3) (pv 0) rfl)) (fun _ _ _ _ _ => (pv 3))) (pe_lst pa_nil) (nomark _))))) (pss_one (ps_ret (pe_lst (pa_cons pe_str (pa_cons pe_int pa_nil))))) pss_nil) (pss_one (ps_ret (pe_lst (pa_cons pe_str (pa_cons (pv 2) pa_nil))))))))), ?_⟩
    try dsimp only [Cx.nox, Cx.wish, cxOf]
    rcases h with ⟨hs, ⟨ty, h1, h2⟩, rfl, rfl⟩ | ⟨t, rfl, hz, hto, h⟩
    · refine ⟨_, rfl, _, _, _, _, false, rfl, .ty "str", h1, by rw [h2, hs], false, rfl, ?_⟩
      refine iteT ?_
      refine ⟨by show 2 ≤ sizeLine; decide, fun p hp => ?_⟩
      exact k p _ (same_new hp) hp ⟨_, upd_same, .non⟩
    refine ⟨_, rfl, _, _, _, _, true, rfl, .ty "str", .base (.str t), kit_str_str, true, rfl, ?_⟩
    refine iteF ?_
    refine ⟨_, rfl, rfl, _, rfl, ?_⟩
    unfold rd at h
    by_cases hd : t = Str.ofString "-"
    · subst hd
      rw [decide_eq_true rfl]
      refine iteT ?_
      rcases h with ⟨h, _⟩ | ⟨wd, h, rfl, rfl⟩
      · exact absurd h (by rw [if_pos rfl]; exact fun z => nomatch z)
      · rw [if_pos rfl] at h
        cases h
        refine ⟨by show 0 ≤ sizeLine; decide, fun q hq => ⟨by show 2 ≤ sizeLine; decide, fun p hp => ?_⟩⟩
        have s1 := same_new (o := .lst ([] : List V)) hq
        have s2 := same_new (o := .lst [V.str (Str.ofString "subject of"), V.ref q]) hp
        exact k p _ (Same.new s1 hp) (s1.free hp) ⟨_, upd_same, dp_wd (w := []) (s2 _ _ upd_same)⟩
    rw [decide_eq_false (fun e => hd (V.str.inj e))]
    refine iteF ?_
    have hs := split_le t " "
    refine ⟨_, rfl, ⟨_, rfl⟩, t, _, rfl, rfl, by decide, sz_le (by omega), fun q hq => ?_⟩
    rw [show (if t = "-" then some [] else if (Txt.split t " ").length ≤ 200 ∧ ∀ u ∈ Txt.split t " ", u ∈ tags then some (Txt.split t " ") else none) = if (Txt.split t " ").length ≤ 200 ∧ ∀ u ∈ Txt.split t " ", u ∈ tags then some (Txt.split t " ") else none from if_neg hd] at h
    have s1 := same_new (o := .lst ((Txt.split t " ").map V.str)) hq
    have k1 : WordAt (upd H q (.lst ((Txt.split t " ").map V.str))) q (Txt.split t " ") := upd_same
    change tSeq _ _ _ _ (upd H q (.lst ((Txt.split t " ").map V.str)))
    have hlw : (Txt.split t " ").length ≤ 10002 := by omega
    clear hs
    have okw : OkWord (Txt.split t " ") := split_ok hto
    generalize upd H q (.lst ((Txt.split t " ").map V.str)) = H1 at s1 k1 ⊢
    generalize Txt.split t " " = wd at h k1 hlw okw
    have bad : ¬ (wd.length ≤ 200 ∧ ∀ u ∈ wd, u ∈ tags) → ∀ H2, Same H1 H2 → ∀ p, H2 p = none → Q (.ref p) (upd H2 p (.lst [V.str (Str.ofString "line"), .int 0])) := fun hn H2 s2 p hp => by
      rcases h with ⟨_, rfl, rfl⟩ | ⟨wd', h, _⟩
      · have s12 := s1.trans s2
        exact k p _ (Same.new s12 hp) (s12.free hp) ⟨_, upd_same, .int 0⟩
      · rw [if_neg hn] at h
        cases h
    refine ⟨_, rfl, _, _, rfl, .inl (SqL.of k1), _, _, rfl, rfl, _, rfl, ?_⟩
    rw [vS_len]
    by_cases hl : wd.length ≤ 200
    case neg =>
      rw [decide_eq_true (by omega)]
      refine iteT ?_
      exact ⟨by show 2 ≤ sizeLine; decide, fun p hp => bad (fun z => hl z.1) H1 (Same.refl _) p hp⟩
    rw [decide_eq_false (by omega)]
    refine iteF ?_
    refine ⟨_, rfl, _, rfl, ⟨_, SqL.of k1⟩, fun D hD => ?_⟩
    refine lc_filter (walk_listW (K := K) (a := q) (w := wd)) hD (by omega) (fun H2 s2 => Same.word s2 k1) (fun i => .str ((wd[i]?).getD "")) (fun i => !decide ((wd[i]?).getD "" ∈ tags)) ?_ ?_
    · rintro i x H2 H3 kk N hi s2 ⟨y, hy, rfl, rfl⟩ hk1 hk2
      rw [hy] at hk1 hk2
      have hk1 : (!decide (y ∈ tags)) = true → ∀ H4, Same H3 H4 → kk (.str y) H4 := hk1
      have hk2 : (!decide (y ∈ tags)) = false → ∀ H4, Same H3 H4 → N H4 := hk2
      refine ⟨rfl, _, rfl, _, rfl, a, vS tags, rfl, .inl (SqL.of (Same.word (s1.trans s2) ha)), rfl, vS_flat, _, rfl, ?_⟩
      rw [if_pos rfl, inV_word]
      by_cases hy2 : y ∈ tags
      · rw [decide_eq_true hy2] at hk2 ⊢
        exact iteF (hk2 rfl _ (Same.refl _))
      · rw [decide_eq_false hy2] at hk1 ⊢
        exact iteT ⟨_, rfl, hk1 rfl _ (Same.refl _)⟩
    · intro H2 s2 e
      rw [filter_range (fun t => !decide (t ∈ tags)) (fun t => .str t) _ _ wd (fun i x hx => by rw [hx]; exact ⟨rfl, rfl⟩)] at e
      have e : WordAt H2 D (wd.filter fun t => !decide (t ∈ tags)) := e
      refine ⟨by show 0 ≤ sizeLine; decide, fun z hz0 => ?_⟩
      have s3 := same_new (o := .lst ([] : List V)) hz0
      refine ne_wd (w := []) (Same.word s3 e) upd_same (fun u hu => okw u (List.mem_filter.mp hu).1) (fun _ h => nomatch h) ?_
      refine ⟨_, rfl, ?_⟩
      have s23 := s2.trans s3
      by_cases hin : ∀ u ∈ wd, u ∈ tags
      · rw [decide_eq_true (show (wd.filter fun t => !decide (t ∈ tags)) = [] from List.filter_eq_nil_iff.mpr fun u hu => by rw [decide_eq_true (hin u hu)]; decide)]
        refine iteF ?_
        rcases h with ⟨h, _⟩ | ⟨wd', h, rfl, rfl⟩
        · rw [if_pos ⟨hl, hin⟩] at h
          cases h
        · rw [if_pos ⟨hl, hin⟩] at h
          cases h
          refine ⟨_, rfl, by show 2 ≤ sizeLine; decide, fun p hp => ?_⟩
          have sA := s1.trans s23
          exact k p _ (Same.new sA hp) (sA.free hp) ⟨_, upd_same, dp_wd (Same.word (Same.new s23 hp) k1)⟩
      · rw [decide_eq_false (show ¬ (wd.filter fun t => !decide (t ∈ tags)) = [] from fun z => hin fun u hu => by
          have := List.filter_eq_nil_iff.mp z u hu
          simpa using this)]
        refine iteT ?_
        exact ⟨by show 2 ≤ sizeLine; decide, fun p hp => bad (fun z => hin z.2) _ s23 p hp⟩
end
end Law
end

section
set_option Elab.async false
set_option linter.all false
set_option maxRecDepth 100000
set_option maxHeartbeats 4000000
namespace Law
open PySem PySem.Spec PyProof.Rows L2 LamX QB QM TL QT
theorem strOk_tl {x : Str} : PyData.strOk x = true ↔ ∀ c ∈ tl x, c < 0x110000 := by
  unfold PyData.strOk
  rw [← Array.all_toList, List.all_eq_true]
  exact ⟨fun h c hc => of_decide_eq_true (h c hc), fun h c hc => decide_eq_true (h c hc)⟩
theorem strOk_add {x y : Str} (hx : PyData.strOk x = true) (hy : PyData.strOk y = true) : PyData.strOk (x ++ y) = true := strOk_tl.mpr fun c hc => by
  rw [tl_append] at hc
  rcases List.mem_append.mp hc with h | h
  · exact strOk_tl.mp hx c h
  · exact strOk_tl.mp hy c h
theorem strOk_cutL {x : Str} (hx : PyData.strOk x = true) (k : Nat) : PyData.strOk (cutS x none (some (k : Int))) = true := strOk_tl.mpr fun c hc => by
  rw [tl_cutL] at hc
  exact strOk_tl.mp hx c (List.mem_of_mem_take hc)
theorem strOk_cutR {x : Str} (hx : PyData.strOk x = true) (k : Nat) : PyData.strOk (cutS x (some (k : Int)) none) = true := strOk_tl.mpr fun c hc => by
  rw [tl_cutR] at hc
  exact strOk_tl.mp hx c (List.mem_of_mem_drop hc)
/-- a text that isn't long, of signs that there are -/
def Tx (n : Nat) (v : V) : Prop := ∃ u : Str, v = .str u ∧ u.length ≤ n ∧ PyData.strOk u = true
section
variable {P : Program} {w : World} {K : PySem.W.Frag} {mg : Str → Option Value} {base : Heap}
def spBent : Sp := fun vs H Q _ => ∃ (p : Addr) (t : Str), vs = [.ref p, .str t] ∧ PileAt H p ∧ t.length ≤ 900 ∧ PyData.strOk t = true ∧ ∀ (u : Str) (H' : Hp), Exc [p] H H' → PileAt H' p → u.length ≤ 2 * t.length + 2 → PyData.strOk u = true → Q (.str u) H'
theorem ok__law_bent (X : TX K mg) : FnOk P w K mg base CX0 3 X.d__law_bent.a X.d__law_bent.fd ["pile", "text"] spBent := by
  have nd := sc__law_bent.nd
  refine X.d__law_bent.F.ok sc__law_bent (fun vs H Q E h => ?_) (fun cdv A outer s0 H vs Q E hr h => ?_)
  · obtain ⟨p, t, rfl, _⟩ := h
    rfl
  · obtain ⟨p, t, rfl, hp, hl, ht, k⟩ := h
    refine ⟨_, (pss_cons (ps_set (i := 2) nd rfl (Or.inl rfl) (pe_call (ok__law_take X) (hr.mono (by decide)) rfl X.d__law_take.mg X.d__law_take.F.kp X.d__law_take.b .nil pass0 (pa_cons (pv 0) (pa_cons (pe_op op_add (pe_callB call_len_str (by rfl) X.n_len PySem.boot_len (pa_cons (pv 1) pa_nil)) pe_int) pa_nil)))) (pss_cons (ps_set (i := 3) nd rfl (Or.inl rfl) (pe_ix (QB.ix_listK K) (pe_lst (pa_cons pe_str (pa_cons pe_str (pa_cons pe_str (pa_cons pe_str (pa_cons pe_str (pa_cons pe_str (pa_cons pe_str (pa_cons pe_str pa_nil))))))))) (pe_call (ok__law_take X) (hr.mono (by decide)) rfl X.d__law_take.mg X.d__law_take.F.kp X.d__law_take.b .nil pass0 (pa_cons (pv 0) (pa_cons pe_int pa_nil))) (fun _ _ => rfl))) (pss_cons (ps_set (i := 4) nd rfl (Or.inl rfl) (pe_lst (pa_cons (pe_op op_add_str (pe_op op_add_str (pe_slice sl_str (pv 1) po_none (po_some (pv 2))) (pv 3)) (pe_slice sl_str (pv 1) (po_some (pv 2)) po_none)) (pa_cons (pe_op op_add_str (pe_slice sl_str (pv 1) po_none (po_some (pv 2))) (pe_slice sl_str (pv 1) (po_some (pe_op op_add (pv 2) pe_int)) po_none)) (pa_cons (pe_op op_add_str (pe_op op_add_str (pe_slice sl_str (pv 1) po_none (po_some (pv 2))) (pv 3)) (pe_slice sl_str (pv 1) (po_some (pe_op op_add (pv 2) pe_int)) po_none)) (pa_cons (pe_slice sl_str (pv 1) (po_some (pv 2)) po_none) pa_nil)))))) (pss_one (ps_ret (pe_ix (QB.ix_listK K) (pe_op op_cat (pv 4) (pe_lst (pa_cons (pe_slice sl_str (pv 1) po_none (po_some (pv 2))) (pa_cons (pe_op op_add_str pe_str (pv 1)) (pa_cons (pe_op op_add_str (pv 1) pe_str) (pa_cons (pe_op op_add_str (pe_op op_add_str (pv 1) pe_str) (pv 1)) pa_nil)))))) (pe_call (ok__law_take X) (hr.mono (by decide)) rfl X.d__law_take.mg X.d__law_take.F.kp X.d__law_take.b .nil pass0 (pa_cons (pv 0) (pa_cons pe_int pa_nil))) (fun _ _ => rfl))))))), ?_⟩
    try dsimp only [Cx.nox, Cx.wish, cxOf]
    have hz : sizeLine = 16777216 := sizeLine_eq
    refine ⟨_, rfl, _, rfl, t, rfl, by omega, _, _, rfl, rfl, ?_⟩
    refine ⟨p, t.length + 1, rfl, by omega, by omega, hp, fun at_ H1 hat x1 p1 => ?_⟩
    refine ⟨by show 8 ≤ sizeLine; decide, fun q1 n1 => ?_⟩
    let signs : List V := [.str (Str.ofString " "), .str (Str.ofString "-"), .str (Str.ofString "a"), .str (Str.ofString "r"), .str (Str.ofString "\n"), .str (Str.ofString "A"), .str (Str.ofString "  "), .str (Str.ofString "re")]
    have hsg : ∀ v ∈ signs, Tx 2 v := by
      intro v hv
      have hv : v = .str (Str.ofString " ") ∨ v = .str (Str.ofString "-") ∨ v = .str (Str.ofString "a") ∨ v = .str (Str.ofString "r") ∨ v = .str (Str.ofString "\n") ∨ v = .str (Str.ofString "A") ∨ v = .str (Str.ofString "  ") ∨ v = .str (Str.ofString "re") := by simpa [signs] using hv
      rcases hv with rfl | rfl | rfl | rfl | rfl | rfl | rfl | rfl <;> exact ⟨_, rfl, by decide +kernel, by decide +kernel⟩
    have s1 := same_new (o := .lst signs) n1
    have k1 : (upd H1 q1 (.lst signs)) q1 = some (.lst signs) := upd_same
    have ls : signs.length = 8 := rfl
    have q1p := (p1.ne n1).symm
    have p1' := p1.same s1
    refine ⟨_, rfl, p, 8, rfl, by decide, by decide, p1', fun r2 H2 hr2 x2 p2 => ?_⟩
    have eg : signs[r2]? = some (signs[r2]'(by omega)) := List.getElem?_eq_getElem _
    obtain ⟨sg, esg, lsg, osg⟩ := hsg _ (List.getElem_mem (show r2 < signs.length by omega))
    rw [esg] at eg
    have xA := (x1.trans (.of s1)).trans x2
    refine ⟨q1, _, _, _, rfl, rfl, SqL.of (x2 _ _ (by simpa using q1p) k1), atI_nat eg, ?_⟩
    clear hsg eg esg k1 s1 p1' x1 x2 q1p
    clear_value signs
    show tSeq _ _ _ (List.set _ 3 _) _
    generalize hσ : (List.set _ 3 _) = σ3
    have eσ : σ3 = [some (.ref p), some (.str t), some (.int (at_ : Int)), some (.str sg), none] := by
      rw [← hσ]
      rfl
    subst eσ
    clear hσ
    have c1 := cut_lens t at_
    have c2 := cut_lens t (at_ + 1)
    have e1 : ((at_ : Int) + 1) = ((at_ + 1 : Nat) : Int) := by omega
    have b1 : Tx (2 * t.length + 2) (.str (cutS t none (some (at_ : Int)) ++ sg ++ cutS t (some (at_ : Int)) none)) := ⟨_, rfl, by rw [len_add, len_add]; omega, strOk_add (strOk_add (strOk_cutL ht _) osg) (strOk_cutR ht _)⟩
    have b2 : Tx (2 * t.length + 2) (.str (cutS t none (some (at_ : Int)) ++ cutS t (some ((at_ : Int) + 1)) none)) := ⟨_, rfl, by rw [e1, len_add]; omega, by rw [e1]; exact strOk_add (strOk_cutL ht _) (strOk_cutR ht _)⟩
    have b3 : Tx (2 * t.length + 2) (.str (cutS t none (some (at_ : Int)) ++ sg ++ cutS t (some ((at_ : Int) + 1)) none)) := ⟨_, rfl, by rw [e1, len_add, len_add]; omega, by rw [e1]; exact strOk_add (strOk_add (strOk_cutL ht _) osg) (strOk_cutR ht _)⟩
    have b4 : Tx (2 * t.length + 2) (.str (cutS t (some (at_ : Int)) none)) := ⟨_, rfl, by omega, strOk_cutR ht _⟩
    have b5 : Tx (2 * t.length + 2) (.str (cutS t none (some (at_ : Int)))) := ⟨_, rfl, by omega, strOk_cutL ht _⟩
    have l1 : (Str.ofString " ").length = 1 := by decide
    have o1 : PyData.strOk (Str.ofString " ") = true := by decide +kernel
    have b6 : Tx (2 * t.length + 2) (.str (Str.ofString " " ++ t)) := ⟨_, rfl, by rw [len_add]; omega, strOk_add o1 ht⟩
    have b7 : Tx (2 * t.length + 2) (.str (t ++ Str.ofString " ")) := ⟨_, rfl, by rw [len_add]; omega, strOk_add ht o1⟩
    have b8 : Tx (2 * t.length + 2) (.str (t ++ Str.ofString " " ++ t)) := ⟨_, rfl, by rw [len_add, len_add]; omega, strOk_add (strOk_add ht o1) ht⟩
    have hu : ∀ {u : Str}, Tx (2 * t.length + 2) (.str u) → u.length ≤ 2 * t.length + 2 := fun ⟨u, e, h, _⟩ => by cases e; exact h
    refine ⟨_, rfl, _, rfl, _, rfl, t, rfl, by omega, _, rfl, _, _, rfl, rfl, by omega, _, rfl, _, rfl, _, rfl, t, rfl, by omega, _, _, rfl, rfl, by rw [len_add]; omega, ?_⟩
    refine ⟨_, rfl, _, rfl, _, rfl, t, rfl, by omega, _, rfl, _, rfl, _, _, rfl, rfl, _, rfl, t, rfl, by omega, _, _, rfl, rfl, by rw [e1]; omega, ?_⟩
    refine ⟨_, rfl, _, rfl, _, rfl, t, rfl, by omega, _, rfl, _, _, rfl, rfl, by omega, _, rfl, _, rfl, _, _, rfl, rfl, _, rfl, t, rfl, by omega, _, _, rfl, rfl, by rw [e1, len_add]; omega, ?_⟩
    refine ⟨_, rfl, _, rfl, _, rfl, t, rfl, by omega, by show 4 ≤ sizeLine; decide, fun m1 n2 => ?_⟩
    generalize cutS t none (some (at_ : Int)) ++ sg ++ cutS t (some (at_ : Int)) none = w1 at b1 ⊢
    generalize cutS t none (some (at_ : Int)) ++ cutS t (some ((at_ : Int) + 1)) none = w2 at b2 ⊢
    generalize cutS t none (some (at_ : Int)) ++ sg ++ cutS t (some ((at_ : Int) + 1)) none = w3 at b3 ⊢
    generalize hw4 : cutS t (some (at_ : Int)) none = w4 at b4 ⊢
    have s3 := same_new (o := .lst [V.str w1, V.str w2, V.str w3, V.str w4]) n2
    have k3 : (upd H2 m1 (.lst [V.str w1, V.str w2, V.str w3, V.str w4])) m1 = some (.lst [V.str w1, V.str w2, V.str w3, V.str w4]) := upd_same
    generalize upd H2 m1 (.lst [V.str w1, V.str w2, V.str w3, V.str w4]) = H3 at s3 k3 ⊢
    refine ⟨_, rfl, _, rfl, _, rfl, _, rfl, t, rfl, by omega, ?_⟩
    refine ⟨_, rfl, _, _, rfl, rfl, by omega, _, rfl, _, _, rfl, rfl, by omega, _, rfl, _, _, rfl, rfl, by omega, _, rfl, _, _, rfl, rfl, by rw [len_add]; omega, by show 4 ≤ sizeLine; decide, fun m2 n4 => ?_⟩
    generalize cutS t none (some (at_ : Int)) = w5 at b5 ⊢
    generalize Str.ofString " " ++ t = w6 at b6 ⊢
    generalize t ++ Str.ofString " " ++ t = w8 at b8 ⊢
    generalize t ++ Str.ofString " " = w7 at b7 ⊢
    have s4 := same_new (o := .lst [V.str w5, V.str w6, V.str w7, V.str w8]) n4
    have k4 : (upd H3 m2 (.lst [V.str w5, V.str w6, V.str w7, V.str w8])) m2 = some (.lst [V.str w5, V.str w6, V.str w7, V.str w8]) := upd_same
    have k34 := s4 _ _ k3
    generalize upd H3 m2 (.lst [V.str w5, V.str w6, V.str w7, V.str w8]) = H4 at s4 k4 k34 ⊢
    refine ⟨m1, m2, _, _, rfl, rfl, k34, k4, by show 8 ≤ sizeLine; decide, fun m3 n5 => ?_⟩
    let menu : List V := [.str w1, .str w2, .str w3, .str w4, .str w5, .str w6, .str w7, .str w8]
    have hmn : ∀ v ∈ menu, Tx (2 * t.length + 2) v := by
      intro v hv
      have hv : v = .str w1 ∨ v = .str w2 ∨ v = .str w3 ∨ v = .str w4 ∨ v = .str w5 ∨ v = .str w6 ∨ v = .str w7 ∨ v = .str w8 := by simpa [menu] using hv
      rcases hv with rfl | rfl | rfl | rfl | rfl | rfl | rfl | rfl <;> assumption
    have s5 := same_new (o := .lst menu) n5
    have k5 : (upd H4 m3 (.lst menu)) m3 = some (.lst menu) := upd_same
    have p5 := ((p2.same s3).same s4).same s5
    have p4 := (p2.same s3).same s4
    refine ⟨_, rfl, p, 8, rfl, by decide, by decide, p5, fun r5 H6 hr6 x6 p6 => ?_⟩
    have em : menu[r5]? = some (menu[r5]'hr6) := List.getElem?_eq_getElem _
    obtain ⟨u, eu, lu, ou⟩ := hmn _ (List.getElem_mem (show r5 < menu.length from hr6))
    rw [eu] at em
    have m3p : m3 ≠ p := fun e => p4.ne n5 e.symm
    refine ⟨m3, _, _, _, rfl, rfl, SqL.of (x6 _ _ (by simpa using m3p) k5), atI_nat em, ?_⟩
    exact k u H6 (xA.trans ((Exc.of (s3.trans (s4.trans s5))).trans x6)) p6 lu ou
end
end Law
end

section
set_option Elab.async false
set_option linter.all false
set_option maxRecDepth 100000
set_option maxHeartbeats 4000000
namespace Law
open PySem PySem.Spec PyProof.Rows L2 LamX QB QM TL QT
theorem sqT_same {K : PySem.W.Frag} {H H' : Hp} {a : Addr} {xs : List V} (s : Same H H') (h : SqT K H a xs) : SqT K H' a xs := QL.sqT_ext (ExtN.of s) h
section
variable {K : PySem.W.Frag} {H H' : Hp}
mutual
theorem dp_same (s : Same H H') : ∀ (d : PyData) (v : V), Dp K H v d → Dp K H' v d
  | .none, _, h => by
    cases h
    exact .non
  | .bool b, _, h => by
    cases h
    exact .bl b
  | .int i, _, h => by
    cases h
    exact .int i
  | .str x, _, h => by
    cases h
    exact .str x
  | .list ds, _, h => by
    cases h with
    | lst h1 h2 => exact .lst (s.seq h1) (dpAll_same s ds _ h2)
  | .tuple ds, _, h => by
    cases h with
    | tup h1 h2 => exact .tup (sqT_same s h1) (dpAll_same s ds _ h2)
  | .dict _, _, h => nomatch h
theorem dpAll_same (s : Same H H') : ∀ (ds : List PyData) (vs : List V), DpAll K H vs ds → DpAll K H' vs ds
  | [], _, h => by
    cases h
    exact .nil
  | d :: ds, _, h => by
    cases h with
    | cons h1 h2 => exact .cons (dp_same s d _ h1) (dpAll_same s ds _ h2)
end
theorem dpAll_app : ∀ {xs ys : List V} {ds es : List PyData}, DpAll K H xs ds → DpAll K H ys es → DpAll K H (xs ++ ys) (ds ++ es)
  | _, _, _, _, .nil, h => h
  | _, _, _, _, .cons h1 h2, h => .cons h1 (dpAll_app h2 h)
theorem dpAll_len : ∀ {xs : List V} {ds : List PyData}, DpAll K H xs ds → ds.length = xs.length
  | _, _, .nil => rfl
  | _, _, .cons _ h => by rw [List.length_cons, List.length_cons, dpAll_len h]
/-! data that are soon written -/
structure ElD (e : PyData) : Prop where
  lay : e.canLay0 = true
  few : e.intsShort 13 = true
  shw : e.showable = true
  wt : e.weight ≤ 20
  dep : e.depth ≤ 3
theorem els_shows {ds : List PyData} (h : ∀ e ∈ ds, ElD e) : PyData.canLayAll0 ds = true ∧ PyData.intsShortAll 13 ds = true ∧ PyData.showableAll ds = true ∧ PyData.weightAll ds ≤ 21 * ds.length ∧ PyData.depthAll ds ≤ 3 := by
  induction ds with
  | nil => exact ⟨rfl, rfl, rfl, Nat.zero_le _, Nat.zero_le _⟩
  | cons e ds ih =>
    obtain ⟨h1, h2, h3, h4, h5⟩ := ih fun x hx => h x (List.mem_cons_of_mem _ hx)
    have he := h e List.mem_cons_self
    refine ⟨?_, ?_, ?_, ?_, ?_⟩
    · rw [PyData.canLayAll0, he.lay, h1]
      rfl
    · rw [PyData.intsShortAll, he.few, h2]
      rfl
    · rw [PyData.showableAll, he.shw, h3]
      rfl
    · rw [PyData.weightAll, List.length_cons]
      have := he.wt
      omega
    · rw [PyData.depthAll]
      exact Nat.max_le.mpr ⟨he.dep, h5⟩
theorem shows_list {ds : List PyData} (h : ∀ e ∈ ds, ElD e) (hl : ds.length ≤ 1000) : QX.Shows (.list ds) := by
  obtain ⟨h1, h2, h3, h4, h5⟩ := els_shows h
  exact ⟨by rw [PyData.canLay0]; exact h1, by rw [PyData.intsShort]; exact h2, by rw [PyData.showable]; exact h3, by rw [PyData.weight]; omega, by rw [PyData.depth]; omega⟩
theorem shows_tuple {ds : List PyData} (h : ∀ e ∈ ds, ElD e) (hl : ds.length ≤ 1000) : QX.Shows (.tuple ds) := by
  obtain ⟨h1, h2, h3, h4, h5⟩ := els_shows h
  exact ⟨by rw [PyData.canLay0]; exact h1, by rw [PyData.intsShort]; exact h2, by rw [PyData.showable]; exact h3, by rw [PyData.weight]; omega, by rw [PyData.depth]; omega⟩
theorem el_none : ElD .none := ⟨rfl, rfl, rfl, Nat.zero_le _, Nat.zero_le _⟩
theorem el_int0 : ElD (.int 0) := ⟨rfl, by decide +kernel, by decide +kernel, by decide, Nat.zero_le _⟩
theorem el_str {t : Str} (h : PyData.strOk t = true) (hl : t.length ≤ 20) : ElD (.str t) := ⟨by rw [PyData.canLay0]; exact h, rfl, rfl, by rw [PyData.weight]; exact hl, by simp [PyData.depth]⟩
theorem el_strs {wd : Word} (h : ∀ t ∈ wd, PyData.strOk t = true ∧ t.length ≤ 9) (hl : wd.length ≤ 1) : ElD (.list (wd.map .str)) := by
  cases wd with
  | nil => exact ⟨rfl, rfl, rfl, Nat.zero_le _, by show PyData.depth (.list []) ≤ 3; rw [PyData.depth, PyData.depthAll]; decide⟩
  | cons t wd =>
    cases wd with
    | cons u wd =>
      rw [List.length_cons, List.length_cons] at hl
      omega
    | nil =>
      obtain ⟨h1, h2⟩ := h t List.mem_cons_self
      have e : t.cps.size = t.length := rfl
      refine ⟨?_, ?_, ?_, ?_, ?_⟩
      · show PyData.canLay0 (.list [.str t]) = true
        rw [PyData.canLay0, PyData.canLayAll0, PyData.canLay0, h1]
        rfl
      · rfl
      · rfl
      · show PyData.weight (.list [.str t]) ≤ 20
        rw [PyData.weight, PyData.weightAll, PyData.weight, PyData.weightAll]
        omega
      · show PyData.depth (.list [.str t]) ≤ 3
        rw [PyData.depth, PyData.depthAll, PyData.depthAll, PyData.depth]
        decide
/-- things of known kinds that are soon written -/
def Lst (K : PySem.W.Frag) (H : Hp) (xs : List V) : Prop := ∃ ds, DpAll K H xs ds ∧ (∀ e ∈ ds, ElD e) ∧ ∀ v ∈ xs, Kd K H v
theorem Lst.nil : Lst K H [] := ⟨[], .nil, (fun _ h => nomatch h), fun _ h => nomatch h⟩
theorem Lst.cons {v : V} {e : PyData} {xs : List V} (h : Dp K H v e) (he : ElD e) (hk : Kd K H v) (L : Lst K H xs) : Lst K H (v :: xs) := by
  obtain ⟨ds, h1, h2, h3⟩ := L
  refine ⟨e :: ds, .cons h h1, fun x hx => ?_, fun x hx => ?_⟩
  · rcases List.mem_cons.mp hx with rfl | hx
    · exact he
    · exact h2 x hx
  · rcases List.mem_cons.mp hx with rfl | hx
    · exact hk
    · exact h3 x hx
theorem Lst.app {xs ys : List V} (L : Lst K H xs) (M : Lst K H ys) : Lst K H (xs ++ ys) := by
  obtain ⟨ds, h1, h2, h3⟩ := L
  obtain ⟨es, k1, k2, k3⟩ := M
  refine ⟨ds ++ es, dpAll_app h1 k1, fun x hx => ?_, fun x hx => ?_⟩
  · rcases List.mem_append.mp hx with hx | hx
    · exact h2 x hx
    · exact k2 x hx
  · rcases List.mem_append.mp hx with hx | hx
    · exact h3 x hx
    · exact k3 x hx
theorem Lst.same {xs : List V} (L : Lst K H xs) (s : Same H H') : Lst K H' xs := by
  obtain ⟨ds, h1, h2, h3⟩ := L
  exact ⟨ds, dpAll_same s ds _ h1, h2, fun v hv => (h3 v hv).same s⟩
theorem Lst.words {tags : Word} (to : TagsOk tags) : ∀ {wd : Word}, (∀ t ∈ wd, t ∈ tags) → Lst K H (vS wd)
  | [], _ => .nil
  | t :: wd, h => by
    have ht := h t List.mem_cons_self
    have hn := to.names t ht
    exact Lst.cons (.str t) (el_str hn.txt (by have := hn.len; omega)) (Kd.str t) (Lst.words to fun x hx => h x (List.mem_cons_of_mem _ hx))
theorem Lst.nones : ∀ n : Nat, Lst K H (List.replicate n .non)
  | 0 => .nil
  | n + 1 => by
    rw [List.replicate_succ]
    exact Lst.cons .non el_none Kd.non (Lst.nones n)
/-! what the law works out of such a list -/
theorem first_bad {p : V → Bool} : ∀ {xs : List V}, (∃ v ∈ xs, p v = false) → ∃ (i : Nat) (y : V), xs[i]? = some y ∧ p y = false ∧ ∀ (j : Nat) (z : V), j < i → xs[j]? = some z → p z = true
  | [], h => by
    obtain ⟨_, h, _⟩ := h
    cases h
  | x :: xs, h => by
    cases hx : p x with
    | false => exact ⟨0, x, rfl, hx, fun j z hj => by omega⟩
    | true =>
      obtain ⟨v, hv, hp⟩ := h
      have hv' : v ∈ xs := by
        rcases List.mem_cons.mp hv with rfl | q
        · rw [hx] at hp
          cases hp
        · exact q
      obtain ⟨i, y, h1, h2, h3⟩ := first_bad (xs := xs) ⟨v, hv', hp⟩
      refine ⟨i + 1, y, by simpa using h1, h2, fun j z hj hz => ?_⟩
      cases j with
      | zero =>
        have : x = z := by simpa using hz
        rw [← this]
        exact hx
      | succ j => exact h3 j z (by omega) (by simpa using hz)
theorem all_tags {tags : Word} : ∀ {xs : List V}, (∀ v ∈ xs, valTag tags v = true) → ∃ wd : Word, xs = vS wd ∧ ∀ t ∈ wd, t ∈ tags
  | [], _ => ⟨[], rfl, fun _ h => nomatch h⟩
  | x :: xs, h => by
    obtain ⟨wd, e, hin⟩ := all_tags (xs := xs) fun v hv => h v (List.mem_cons_of_mem _ hv)
    have hx := h x List.mem_cons_self
    cases x with
    | str t =>
      refine ⟨t :: wd, by rw [e]; rfl, fun u hu => ?_⟩
      rcases List.mem_cons.mp hu with rfl | hu
      · exact of_decide_eq_true hx
      · exact hin u hu
    | _ => cases hx
theorem spaced_ok {wd : Word} (h : OkWord wd) : PyData.strOk (spaced wd) = true := by
  have key : ∀ (wd : Word) (x : Str), OkWord wd → PyData.strOk x = true → PyData.strOk (wd.foldl (fun x t => x ++ Str.ofString " " ++ t) x) = true := by
    intro wd
    induction wd with
    | nil => exact fun x _ hx => hx
    | cons t wd ih => exact fun x hw hx => ih _ (fun u hu => hw u (List.mem_cons_of_mem _ hu)) (strOk_add (strOk_add hx (by decide +kernel)) (hw t List.mem_cons_self))
  exact key wd _ h (by decide +kernel)
theorem writ_ok {wd : Word} (h : OkWord wd) : PyData.strOk (writ wd) = true := by
  unfold writ
  by_cases hw : wd = []
  · rw [if_pos hw]
    decide +kernel
  · rw [if_neg hw, show Txt.join " " wd = cutS (spaced wd) (some ((1 : Nat) : Int)) none from (spaced_cut hw).symm]
    exact strOk_cutR (spaced_ok h) 1
theorem writ_len {wd : Word} : (writ wd).length ≤ (wd.map (·.length)).sum + wd.length + 1 := by
  unfold writ
  by_cases hw : wd = []
  · rw [if_pos hw]
    have : (Str.ofString "-").length = 1 := by decide
    show (Str.ofString "-").length ≤ _
    omega
  · rw [if_neg hw, show Txt.join " " wd = cutS (spaced wd) (some ((1 : Nat) : Int)) none from (spaced_cut hw).symm]
    have h1 := (cut_lens (spaced wd) 1).2
    have h2 := spaced_len wd
    omega
/-- told lists that may be compared -/
def ToldD (s : Str) (d : PyData) : Prop := PyData.strOk s = true ∧ PyData.canLay0 d = true ∧ PyData.depth d ≤ 3
theorem ivD_told {iv : V} {s : Str} (h : PyData.strOk s = true) : ToldD s (ivD iv) := by
  cases iv <;> exact ⟨h, rfl, by simp [ivD, PyData.depth]⟩
theorem ToldD.shaped {s : Str} {d : PyData} (h : ToldD s d) : SeqAt.shaped (.list [.str s, d]) = true := by
  obtain ⟨h1, h2, h3⟩ := h
  unfold SeqAt.shaped
  rw [Bool.and_eq_true]
  refine ⟨?_, decide_eq_true ?_⟩
  · rw [PyData.canLay0, PyData.canLayAll0, PyData.canLayAll0, PyData.canLayAll0, PyData.canLay0, h1, h2]
    rfl
  · rw [PyData.depth, PyData.depthAll, PyData.depthAll, PyData.depthAll, PyData.depth]
    omega
theorem eqv_self {d : PyData} (h : d.canLay0 = true) : PyData.eqv d d = true := PySem.SeqAt.eqv_refl_plain d (PyData.plain_of_canLay0 d h)
theorem told_dp {p : Addr} {s : Str} {d : PyData} (h : ToldAt K H p s d) : Dp K H (.ref p) (.list [.str s, d]) := by
  obtain ⟨v, h1, h2⟩ := h
  exact .lst (SqL.of h1) (.cons (.str s) (.cons h2 .nil))
theorem ToldAt.same {p : Addr} {s : Str} {d : PyData} (h : ToldAt K H p s d) (e : Same H H') : ToldAt K H' p s d := by
  obtain ⟨v, h1, h2⟩ := h
  exact ⟨v, e _ _ h1, dp_same e d v h2⟩
theorem ne_told {p q : Addr} {s : Str} {d : PyData} {Q : VK} (h1 : ToldAt K H p s d) (h2 : ToldAt K H q s d) (hd : ToldD s d) (k : Q (.bl false) H) : rNeD K (.ref p) (.ref q) H Q := by
  have sh := hd.shaped
  refine ⟨_, _, told_dp h1, told_dp h2, sh, sh, ?_⟩
  rw [eqv_self (by unfold SeqAt.shaped at sh; exact (Bool.and_eq_true_iff.mp sh).1)]
  exact k
theorem subj_of_list {tags : Word} {b : Addr} {xs : List V} (to : TagsOk tags) (hb : H b = some (.lst xs)) (L : Lst K H xs) (hl : xs.length ≤ 1000) : ∃ s d, SubjDue K H tags (.ref b) s d ∧ ToldD s d := by
  obtain ⟨_, _, _, hk⟩ := L
  by_cases h200 : xs.length ≤ 200
  · by_cases hall : ∀ v ∈ xs, valTag tags v = true
    · obtain ⟨wd, e, hin⟩ := all_tags hall
      subst e
      rw [vS_len] at h200
      exact ⟨_, _, .inr ⟨b, wd, rfl, hb, h200, hin, rfl, rfl⟩, by decide +kernel, by rw [PyData.canLay0]; exact writ_ok (sub_ok to hin), by simp [PyData.depth]⟩
    · have hex : ∃ v ∈ xs, valTag tags v = false := by
        refine Classical.byContradiction fun hn => hall fun v hv => ?_
        cases q : valTag tags v with
        | true => rfl
        | false => exact absurd ⟨v, hv, q⟩ hn
      obtain ⟨i, y, h1, h2, h3⟩ := first_bad hex
      exact ⟨_, _, .inl ⟨.int (i : Int), .inr ⟨b, xs, rfl, hb, .inr ⟨by omega, by omega, hk, i, y, h1, h2, h3, rfl⟩⟩, rfl, rfl⟩, ivD_told (by decide +kernel)⟩
  · exact ⟨_, _, .inl ⟨.non, .inr ⟨b, xs, rfl, hb, .inl ⟨by omega, rfl⟩⟩, rfl, rfl⟩, ivD_told (by decide +kernel)⟩
theorem subj_of_no {tags : Word} {v : V} (h : NoL K H v) : ∃ s d, SubjDue K H tags v s d ∧ ToldD s d := ⟨_, _, .inl ⟨.non, .inl ⟨h, rfl⟩, rfl, rfl⟩, ivD_told (by decide +kernel)⟩
theorem SubjDue.same {tags : Word} {v : V} {s : Str} {d : PyData} (h : SubjDue K H tags v s d) (e : Same H H') : SubjDue K H' tags v s d := by
  rcases h with ⟨iv, h1, h2⟩ | ⟨b, wd, h1, h2, h3⟩
  · exact .inl ⟨iv, h1.same e, h2⟩
  · exact .inr ⟨b, wd, h1, Same.word e h2, h3⟩
theorem SubjDue.out {a : Addr} {tags : Word} {v : V} {s : Str} {d : PyData} (h : SubjDue K H tags v s d) (ha : WordAt H a tags) (to : TagsOk tags) : Out K H (.ref a) v 0 s d := by
  rcases h with ⟨iv, h1, rfl, rfl⟩ | ⟨b, wd, h1, h2, h3, h4, rfl, rfl⟩
  · exact .subj rfl ha to h1
  · exact .text rfl ha to h1 h2 h3 h4
theorem rd_sub {tags : Word} {most : Nat} {t : Str} {wd : Word} (h : rd tags most t = some wd) : ∀ u ∈ wd, u ∈ tags := by
  unfold rd at h
  by_cases h1 : t = "-"
  · rw [if_pos h1] at h
    cases h
    exact fun _ h => nomatch h
  · rw [if_neg h1] at h
    by_cases h2 : (Txt.split t " ").length ≤ most ∧ ∀ u ∈ Txt.split t " ", u ∈ tags
    · rw [if_pos h2] at h
      cases h
      exact h2.2
    · rw [if_neg h2] at h
      cases h
theorem text_of_str {tags : Word} {t : Str} (to : TagsOk tags) (hl : t.length ≤ 10000) (ho : PyData.strOk t = true) : ∃ s d, TextDue K H tags (.str t) s d ∧ ToldD s d := by
  cases h : rd tags 200 t with
  | none => exact ⟨_, _, .inr ⟨t, rfl, hl, ho, .inl ⟨h, rfl, rfl⟩⟩, by decide +kernel, rfl, by simp [PyData.depth]⟩
  | some wd =>
    refine ⟨_, _, .inr ⟨t, rfl, hl, ho, .inr ⟨wd, h, rfl, rfl⟩⟩, by decide +kernel, enc_word.lay wd (sub_ok to (rd_sub h)), ?_⟩
    have := enc_word.dep wd
    omega
theorem text_of_no {tags : Word} {v : V} (h1 : isS v = false) (h2 : Kd K H v) : ∃ s d, TextDue K H tags v s d ∧ ToldD s d := ⟨_, _, .inl ⟨h1, h2, rfl, rfl⟩, by decide +kernel, rfl, by simp [PyData.depth]⟩
theorem TextDue.same {tags : Word} {v : V} {s : Str} {d : PyData} (h : TextDue K H tags v s d) (e : Same H H') : TextDue K H' tags v s d := by
  rcases h with ⟨h1, h2, h3⟩ | h
  · exact .inl ⟨h1, h2.same e, h3⟩
  · exact .inr h
theorem TextDue.out {a : Addr} {tags : Word} {v : V} {s : Str} {d : PyData} (h : TextDue K H tags v s d) (ha : WordAt H a tags) (to : TagsOk tags) : Out K H (.ref a) v 1 s d := by
  rcases h with ⟨h1, h2, rfl, rfl⟩ | ⟨t, ht, hl, ho, ⟨h, rfl, rfl⟩ | ⟨wd, h, rfl, rfl⟩⟩
  · exact .line0 rfl ha to h1 h2
  · exact .line1 rfl ha to ht hl h
  · exact .word rfl ha to ht hl h
/-- the law's things: what comes of them, how they are written -/
def ItemS (K : PySem.W.Frag) (H : Hp) (tags : Word) (v : V) : Prop := (∃ s d, SubjDue K H tags v s d ∧ ToldD s d) ∧ ∃ e, Dp K H v e ∧ QX.Shows e
theorem ItemS.same {tags : Word} {v : V} (h : ItemS K H tags v) (e : Same H H') : ItemS K H' tags v := by
  obtain ⟨⟨s, d, h1, h2⟩, f, h3, h4⟩ := h
  exact ⟨⟨s, d, h1.same e, h2⟩, f, dp_same e f v h3, h4⟩
theorem itemS_list {tags : Word} {b : Addr} {xs : List V} (to : TagsOk tags) (hb : H b = some (.lst xs)) (L : Lst K H xs) (hl : xs.length ≤ 1000) : ItemS K H tags (.ref b) := by
  refine ⟨subj_of_list to hb L hl, ?_⟩
  obtain ⟨ds, h1, h2, _⟩ := L
  exact ⟨_, .lst (SqL.of hb) h1, shows_list h2 (by rw [dpAll_len h1]; exact hl)⟩
end
end Law
end

section
set_option Elab.async false
set_option linter.all false
set_option maxRecDepth 100000
set_option maxHeartbeats 4000000
namespace Law
open PySem PySem.Spec PyProof.Rows L2 LamX QB QM TL QT
theorem Exc.same {p : Addr} {H H1 H2 : Hp} (x : Exc [p] H1 H2) (s : Same H H1) (n : H p = none) : Same H H2 := fun b o e => x b o (by
  have : b ≠ p := ne_of_none e n
  simpa using this) (s b o e)
theorem flat_rep1 {α : Type} (n : Nat) (x : α) : (List.replicate n [x]).flatten = List.replicate n x := by
  induction n with
  | zero => rfl
  | succ n ih =>
    rw [List.replicate_succ, List.flatten_cons, ih]
    rfl
/-- tags that are refused, as the law has them -/
def WItem (K : PySem.W.Frag) (H : Hp) (tags : Word) (t0 : Str) (v : V) : Prop := ∃ (T : Addr) (wv dv : V), v = .ref T ∧ H T = some (.tup [wv, dv]) ∧ ∃ dw, Dp K H wv dw ∧ SeqAt.shaped dw = true ∧ Dp K H dv (ivD dv) ∧ (WrongT K H wv dv ∨ (tags.length = 6 ∧ dw = dWord (tags ++ [t0])))
theorem wrong_more {K : PySem.W.Frag} {H : Hp} {tags : Word} {t0 : Str} {z : Addr} (to : TagsOk tags) (h0 : t0 ∈ tags) (h : WordAt H z (tags ++ [t0])) : WrongT K H (.ref z) (.int (tags.length : Int)) ∨ (tags.length = 6 ∧ dWord (tags ++ [t0]) = dWord (tags ++ [t0])) := by
  have hl := to.len
  have hp := to.pos
  by_cases h6 : tags.length = 6
  · exact .inr ⟨h6, rfl⟩
  refine .inl (.inr ⟨z, vS (tags ++ [t0]), rfl, h, .inr ⟨?_, ?_, kd_words, fun t ht => ?_, tags.length, ?_, ?_, fun j hj => ?_, rfl⟩⟩)
  · rw [vS_len, List.length_append]
    show 1 ≤ _ + 1
    omega
  · rw [vS_len, List.length_append]
    show _ + 1 ≤ 6
    omega
  · obtain ⟨u, hu, e⟩ := List.mem_map.mp ht
    cases e
    have hu : t ∈ tags := by
      rcases List.mem_append.mp hu with h | h
      · exact h
      · rw [List.mem_singleton.mp h]
        exact h0
    have := (to.names t hu).len
    omega
  · rw [vS_len, List.length_append]
    show _ < _ + 1
    omega
  · unfold badAt
    rw [vS_get (x := t0) (by simp), vS_take, List.take_append_of_le_length (Nat.le_refl _), List.take_length]
    dsimp only
    rw [inV_word, decide_eq_true h0, Bool.or_true]
  · have e := badAt_words to j (by rw [vS_len]; exact hj)
    unfold badAt at e ⊢
    rw [vS_get (w := tags ++ [t0]) (x := tags[j]'hj) (by rw [List.getElem?_append_left hj, List.getElem?_eq_getElem hj]), vS_take, List.take_append_of_le_length (by omega)]
    rw [vS_get (w := tags) (x := tags[j]'hj) (List.getElem?_eq_getElem hj), vS_take] at e
    exact e
theorem wrong_ab {K : PySem.W.Frag} {H : Hp} {t0 : Str} {z : Addr} (h0 : NameOk t0) (h : WordAt H z [t0, Str.ofString "a b"]) : WrongT K H (.ref z) (.int 1) := by
  refine .inr ⟨z, vS [t0, Str.ofString "a b"], rfl, h, .inr ⟨by show 1 ≤ 2; decide, by show 2 ≤ 6; decide, kd_words, fun t ht => ?_, 1, by show 1 < 2; decide, ?_, fun j hj => ?_, rfl⟩⟩
  · have ht : t = t0 ∨ t = Str.ofString "a b" := by simpa [vS] using ht
    rcases ht with rfl | rfl
    · have := h0.len
      omega
    · decide
  · have e : isNameV (.str (Str.ofString "a b")) = false := by decide +kernel
    show (!isNameV (.str (Str.ofString "a b")) || inV (.str (Str.ofString "a b")) [V.str t0]) = true
    rw [e]
    rfl
  · have : j = 0 := by omega
    subst this
    have e : isNameV (.str t0) = true := nameB_ok h0
    show (!isNameV (.str t0) || inV (.str t0) []) = false
    rw [e]
    rfl
section
variable {P : Program} {w : World} {K : PySem.W.Frag} {mg : Str → Option Value} {base : Heap}
def spLaw (K : PySem.W.Frag) : Sp := fun vs H Q _ => ∃ (l : Addr) (ns : List Int), vs = [.ref l] ∧ SqL K H l (ns.map V.int) ∧ ∀ H', Q (.bl true) H'
theorem ok_law (X : TX K mg) (hc : Room 6 callerA) : QT.RunG P w K mg base CX0 X.d_law.a X.d_law.fd "script" (spLaw K) := by
  have nd := sc_law.nd
  refine QT.run_ofG X.d_law.F sc_law hc (fun vs H Q E h => ?_) (fun cdv s0 H vs Q E hr h => ?_)
  · obtain ⟨l, ns, rfl, _⟩ := h
    rfl
  · obtain ⟨l, ns, rfl, hl, k⟩ := h
    have hg := QT.guards0 (env := envOfC "law" (defScope s_law) s0.heap.objs.size X.d_law.a cdv)
    refine ⟨_, (pss_cons (ps_for PassesOwn.never rfl (pi_range1 (by rfl) X.n_range (pa_cons pe_int pa_nil)) (pg_name (i := 1) nd rfl (Or.inl rfl)) (pss_cons (ps_set (i := 2) nd rfl (Or.inl rfl) (pe_call (ok__law_pile X) (hr.mono (by decide)) rfl X.d__law_pile.mg X.d__law_pile.F.kp X.d__law_pile.b .nil pass0 (pa_cons (pv 0) (pa_cons (pv 1) pa_nil)))) (pss_cons (ps_set (i := 3) nd rfl (Or.inl rfl) (pe_call (ok__law_tags X) (hr.mono (by decide)) rfl X.d__law_tags.mg X.d__law_tags.F.kp X.d__law_tags.b .nil pass0 (pa_cons (pv 2) (pa_cons (pe_op op_add pe_int (pe_call (ok__law_take X) (hr.mono (by decide)) rfl X.d__law_take.mg X.d__law_take.F.kp X.d__law_take.b .nil pass0 (pa_cons (pv 2) (pa_cons pe_int pa_nil)))) pa_nil)))) (pss_cons (ps_set (i := 4) nd rfl (Or.inl rfl) (pe_call (ok__law_word X) (hr.mono (by decide)) rfl X.d__law_word.mg X.d__law_word.F.kp X.d__law_word.b .nil pass0 (pa_cons (pv 2) (pa_cons (pv 3) (pa_cons pe_int pa_nil))))) (pss_cons (ps_set (i := 5) nd rfl (Or.inl rfl) (pe_op op_rep (pe_slice (QB.sl_listK K) (pv 3) po_none (po_some pe_int)) (pe_op op_add pe_int (pe_call (ok__law_take X) (hr.mono (by decide)) rfl X.d__law_take.mg X.d__law_take.F.kp X.d__law_take.b .nil pass0 (pa_cons (pv 2) (pa_cons pe_int pa_nil)))))) (pss_cons (ps_set (i := 6) nd rfl (Or.inl rfl) (pe_ix (QB.ix_listK K) (pe_lst (pa_cons (pe_op op_add_str (pe_ix (QB.ix_listK K) (pv 3) pe_int (fun _ _ => rfl)) pe_str) (pa_cons pe_non (pa_cons pe_int (pa_cons pe_str (pa_cons (pe_lst (pa_cons (pe_ix (QB.ix_listK K) (pv 3) pe_int (fun _ _ => rfl)) pa_nil)) (pa_cons pe_str (pa_cons (pe_ix (QB.ix_listK K) (pv 3) pe_int (fun _ _ => rfl)) (pa_cons pe_str pa_nil))))))))) (pe_call (ok__law_take X) (hr.mono (by decide)) rfl X.d__law_take.mg X.d__law_take.F.kp X.d__law_take.b .nil pass0 (pa_cons (pv 2) (pa_cons pe_int pa_nil))) (fun _ _ => rfl))) (pss_cons (ps_set (i := 7) nd rfl (Or.inl rfl) (pe_call (ok__law_take X) (hr.mono (by decide)) rfl X.d__law_take.mg X.d__law_take.F.kp X.d__law_take.b .nil pass0 (pa_cons (pv 2) (pa_cons (pe_op op_add (pe_callB (QB.call_lenK K) (by rfl) X.n_len PySem.boot_len (pa_cons (pv 4) pa_nil)) pe_int) pa_nil)))) (pss_cons (ps_set (i := 8) nd rfl (Or.inl rfl) (pe_op op_cat (pe_op op_cat (pe_slice (QB.sl_listK K) (pv 4) po_none (po_some (pv 7))) (pe_lst (pa_cons (pv 6) pa_nil))) (pe_slice (QB.sl_listK K) (pv 4) (po_some (pv 7)) po_none))) (pss_cons (ps_for PassesOwn.never rfl (QB.pi_listK K (pe_lst (pa_cons (pv 4) (pa_cons (pv 8) (pa_cons (pe_op op_cat (pv 8) (pe_lst (pa_cons pe_non pa_nil))) (pa_cons (pv 5) (pa_cons (pe_callTy (QB.call_tupleK K) (by rfl) X.n_tuple QB.bo_tuple (pa_cons (pv 4) pa_nil)) (pa_cons pe_non (pa_cons (pe_ix (QB.ix_listK K) (pv 3) pe_int (fun _ _ => rfl)) (pa_cons (pe_op op_rep (pe_lst (pa_cons pe_non pa_nil)) pe_int) (pa_cons (pe_lst pa_nil) pa_nil))))))))))) (pg_name (i := 9) nd rfl (Or.inl rfl)) (pss_cons (ps_set (i := 10) nd rfl (Or.inl rfl) (pe_callTy (QX.call_strDK K hg hr.units) (by rfl) X.n_str QB.bo_str (pa_cons (pv 9) pa_nil))) (pss_one (ps_if (PW.pt (pw_or (pt_cmpR (QB.op_neDK K hr.units) (pe_call (ok__law_told X) (hr.mono (by decide)) rfl X.d__law_told.mg X.d__law_told.F.kp X.d__law_told.b .nil pass0 (pa_cons pe_int (pa_cons (pv 3) (pa_cons (pv 9) pa_nil)))) (pe_call (ok__law_subject_due X) (hr.mono (by decide)) rfl X.d__law_subject_due.mg X.d__law_subject_due.F.kp X.d__law_subject_due.b .nil pass0 (pa_cons (pv 3) (pa_cons (pv 9) pa_nil))) (nomark _)) (pw_or1 (pt_cmpR op_ne (pe_callTy (QX.call_strDK K hg hr.units) (by rfl) X.n_str QB.bo_str (pa_cons (pv 9) pa_nil)) (pv 10) (nomark _))))) (pss_one (ps_ret pe_bl)) pss_nil)))) (pss_cons (ps_set (i := 11) nd rfl (Or.inl rfl) (pe_call (ok__law_written X) (hr.mono (by decide)) rfl X.d__law_written.mg X.d__law_written.F.kp X.d__law_written.b .nil pass0 (pa_cons (pv 4) pa_nil))) (pss_cons (ps_set (i := 12) nd rfl (Or.inl rfl) (pe_call (ok__law_bent X) (hr.mono (by decide)) rfl X.d__law_bent.mg X.d__law_bent.F.kp X.d__law_bent.b .nil pass0 (pa_cons (pv 2) (pa_cons (pv 11) pa_nil)))) (pss_cons (ps_set (i := 13) nd rfl (Or.inl rfl) (pe_lst (pa_cons (pv 11) (pa_cons (pv 12) (pa_cons (pe_call (ok__law_bent X) (hr.mono (by decide)) rfl X.d__law_bent.mg X.d__law_bent.F.kp X.d__law_bent.b .nil pass0 (pa_cons (pv 2) (pa_cons (pv 12) pa_nil))) (pa_cons (pe_call (ok__law_written X) (hr.mono (by decide)) rfl X.d__law_written.mg X.d__law_written.F.kp X.d__law_written.b .nil pass0 (pa_cons (pv 5) pa_nil)) (pa_cons pe_str (pa_cons pe_str (pa_cons pe_str (pa_cons pe_str (pa_cons pe_str pa_nil))))))))))) (pss_cons (ps_for PassesOwn.never rfl (QB.pi_listK K (pe_op op_cat (pv 13) (pe_lst (pa_cons pe_non (pa_cons pe_int (pa_cons (pv 4) pa_nil)))))) (pg_name (i := 9) nd rfl (Or.inl rfl)) (pss_one (ps_if (pt_cmpR (QB.op_neDK K hr.units) (pe_call (ok__law_told X) (hr.mono (by decide)) rfl X.d__law_told.mg X.d__law_told.F.kp X.d__law_told.b .nil pass0 (pa_cons pe_int (pa_cons (pv 3) (pa_cons (pv 9) pa_nil)))) (pe_call (ok__law_text_due X) (hr.mono (by decide)) rfl X.d__law_text_due.mg X.d__law_text_due.F.kp X.d__law_text_due.b .nil pass0 (pa_cons (pv 3) (pa_cons (pv 9) pa_nil))) (nomark _)) (pss_one (ps_ret pe_bl)) pss_nil))) (pss_one (ps_for PassesOwn.never rfl (QB.pi_listK K (pe_lst (pa_cons (pe_tup (pa_cons (pe_op op_cat (pv 3) (pe_slice (QB.sl_listK K) (pv 3) po_none (po_some pe_int))) (pa_cons (pe_callB (QB.call_lenK K) (by rfl) X.n_len PySem.boot_len (pa_cons (pv 3) pa_nil)) pa_nil))) (pa_cons (pe_tup (pa_cons (pe_lst pa_nil) (pa_cons pe_non pa_nil))) (pa_cons (pe_tup (pa_cons pe_non (pa_cons pe_non pa_nil))) (pa_cons (pe_tup (pa_cons (pe_op op_cat (pe_slice (QB.sl_listK K) (pv 3) po_none (po_some pe_int)) (pe_lst (pa_cons pe_str pa_nil))) (pa_cons pe_int pa_nil))) pa_nil)))))) (pg_tup (by rfl) (pgs_cons (pg_name (i := 14) nd rfl (Or.inl rfl)) (pgs_cons (pg_name (i := 15) nd rfl (Or.inl rfl)) (pgs_nil)))) (pss_one (ps_if (PW.pt (pw_or (pt_cmpR op_lt (pe_callB (QB.call_lenK K) (by rfl) X.n_len PySem.boot_len (pa_cons (pv 3) pa_nil)) pe_int (nomark _)) (pw_or1 (pt_cmpR (QB.op_neDK K hr.units) (pv 14) (pe_op op_cat (pv 3) (pe_slice (QB.sl_listK K) (pv 3) po_none (po_some pe_int))) (nomark _))))) (pss_one (ps_for PassesOwn.never rfl (QB.pi_listK K (pe_lst (pa_cons pe_int (pa_cons pe_int pa_nil)))) (pg_name (i := 16) nd rfl (Or.inl rfl)) (pss_one (ps_for PassesOwn.never rfl (QB.pi_listK K (pe_lst (pa_cons (pv 4) (pa_cons (pv 11) (pa_cons pe_non (pa_cons pe_int (pa_cons (pe_callTy (QB.call_tupleK K) (by rfl) X.n_tuple QB.bo_tuple (pa_cons (pv 3) pa_nil)) (pa_cons (pe_op op_rep (pe_lst (pa_cons pe_non pa_nil)) pe_int) pa_nil)))))))) (pg_name (i := 17) nd rfl (Or.inl rfl)) (pss_one (ps_if (pt_cmpR (QB.op_neDK K hr.units) (pe_call (ok__law_told X) (hr.mono (by decide)) rfl X.d__law_told.mg X.d__law_told.F.kp X.d__law_told.b .nil pass0 (pa_cons (pv 16) (pa_cons (pv 14) (pa_cons (pv 17) pa_nil)))) (pe_lst (pa_cons pe_str (pa_cons (pv 15) pa_nil))) (nomark _)) (pss_one (ps_ret pe_bl)) pss_nil)))))) pss_nil))))))))))))))))) (pss_one (ps_ret pe_bl))), ?_⟩
    try dsimp only [Cx.nox, Cx.wish, cxOf]
    clear hg
    refine ⟨(6 : Int), rfl, by decide, by decide, ?_⟩
    refine for_it (walk_range (lo := 0) (n := 6)) (fun i σ H' => ∃ v1 v2 v3 v4 v5 v6 v7 v8 v9 v10 v11 v12 v13 v14 v15 v16 v17 : Option V, σ = [some (.ref l), v1, v2, v3, v4, v5, v6, v7, v8, v9, v10, v11, v12, v13, v14, v15, v16, v17] ∧ Same H H')
      ⟨none, none, none, none, none, none, none, none, none, none, none, none, none, none, none, none, none, rfl, Same.refl _⟩ (fun _ _ _ _ _ => True.intro) ?_ ?_
    · rintro i x σ H1 H2 hi ⟨v1, v2, v3, v4, v5, v6, v7, v8, v9, v10, v11, v12, v13, v14, v15, v16, v17, rfl, e1⟩ ⟨rfl, rfl⟩
      -- the pile
      refine ⟨_, rfl, _, rfl, ?_⟩
      refine ⟨l, ns, 0 + i, rfl, e1.seq hl, fun p H3 s3 np p3 => ?_⟩
      have np0 : H p = none := e1.free np
      have e3 := e1.trans s3
      clear s3 np e1
      -- the tags
      refine ⟨_, rfl, _, rfl, ?_⟩
      refine ⟨p, 6, rfl, by decide, by decide, p3, fun r H4 hr4 x4 p4 => ?_⟩
      have e4 := Exc.same x4 e3 np0
      refine ⟨_, _, rfl, rfl, ?_⟩
      refine ⟨p, 1 + r, rfl, by omega, by omega, p4, fun tags a H5 to tl x5 p5 na wa => ?_⟩
      have e5 := Exc.same x5 e4 np0
      clear x4 x5 p3 p4 e3 e4 na
      have okt := to.ok
      have htl := to.len
      have htp := to.pos
      -- the subject
      refine ⟨_, rfl, _, rfl, p, a, tags, 8, rfl, by decide, p5, wa, to, fun wd q1 H6 hin hwl x6 p6 n6 w6 => ?_⟩
      have e6 := Exc.same x6 e5 np0
      have wa6 := wordExc x6 (p5.word wa) wa
      clear x6 p5 wa e5 n6
      obtain ⟨t0, et0⟩ : ∃ t0, tags[0]? = some t0 := ⟨tags[0], List.getElem?_eq_getElem (by omega)⟩
      have ht0 : t0 ∈ tags := List.mem_of_getElem? et0
      have hn0 := to.names t0 ht0
      have etk : tags.take 1 = [t0] := by
        cases tags with
        | nil => cases et0
        | cons u r =>
          cases et0
          rfl
      -- full
      refine ⟨_, rfl, _, rfl, a, _, rfl, SqL.of wa6, fun q2 hq2 => ?_⟩
      have ec : cutV (vS tags) none (some 1) = vS [t0] := by rw [← etk]; exact (cut_take (vS tags) 1).trans (vS_take tags 1)
      rw [ec]
      have s7 := same_new (o := .lst (vS [t0])) hq2
      have k7 : WordAt (upd H6 q2 (.lst (vS [t0]))) q2 [t0] := upd_same
      have p7 := p6.same s7
      generalize upd H6 q2 (.lst (vS [t0])) = H7 at s7 k7 p7 ⊢
      refine ⟨_, rfl, p, 3, rfl, by decide, by decide, p7, fun r2 H8 hr2 x8 p8 => ?_⟩
      refine ⟨_, _, rfl, rfl, ?_⟩
      have k8 := wordExc x8 (p7.word k7) k7
      refine ⟨q2, _, _, rfl, rfl, k8, by omega, by omega, ?_, fun q3 hq3 => ?_⟩
      · show 1 * _ ≤ sizeLine
        exact sz_le (by omega)
      have ef : (List.replicate ((199 : Int) + (r2 : Int)).toNat (vS [t0])).flatten = vS (List.replicate (199 + r2) t0) := by
        rw [show ((199 : Int) + (r2 : Int)).toNat = 199 + r2 by omega]
        unfold vS
        rw [List.map_replicate]
        exact flat_rep1 _ _
      rw [ef]
      have s9 := same_new (o := .lst (vS (List.replicate (199 + r2) t0))) hq3
      have wf : WordAt (upd H8 q3 (.lst (vS (List.replicate (199 + r2) t0)))) q3 (List.replicate (199 + r2) t0) := upd_same
      have p9 := p8.same s9
      have x69 : Exc [p] H6 (upd H8 q3 (.lst (vS (List.replicate (199 + r2) t0)))) := ((Exc.of s7).trans x8).trans (.of s9)
      generalize upd H8 q3 (.lst (vS (List.replicate (199 + r2) t0))) = H9 at s9 wf p9 x69 ⊢
      have wa9 := wordExc x69 (p6.word wa6) wa6
      have w9 := wordExc x69 (p6.word w6) w6
      have e9 := Exc.same x69 e6 np0
      clear x69 s9 s7 x8 k8 k7 p7 p8 p6 w6 wa6 e6 hq2 hq3 ec ef
      -- odd
      have l9 := hn0.len
      refine ⟨_, rfl, a, _, _, _, rfl, rfl, SqL.of wa9, atI_nat (j := 0) (vS_get et0), _, _, rfl, rfl, by show t0.length + 1 ≤ sizeLine; exact sz_le (by omega), ?_⟩
      refine ⟨_, rfl, a, _, _, _, rfl, rfl, SqL.of wa9, atI_nat (j := 0) (vS_get et0), by show 1 ≤ sizeLine; decide, fun q4 hq4 => ?_⟩
      have s10 := same_new (o := .lst [V.str t0]) hq4
      have k10 : WordAt (upd H9 q4 (.lst [V.str t0])) q4 [t0] := upd_same
      generalize upd H9 q4 (.lst [V.str t0]) = H10 at s10 k10 ⊢
      have wa10 := Same.word s10 wa9
      refine ⟨_, rfl, a, _, _, _, rfl, rfl, SqL.of wa10, atI_nat (j := 0) (vS_get et0), by show 8 ≤ sizeLine; decide, fun q5 hq5 => ?_⟩
      let odds : List V := [.str (t0 ++ Str.ofString "q"), .non, .int 0, .str (Str.ofString ""), .ref q4, .str (Str.ofString "A"), .str t0, .str (Str.ofString "-")]
      have s11 := same_new (o := .lst odds) hq5
      have k11 : (upd H10 q5 (.lst odds)) q5 = some (.lst odds) := upd_same
      have p10 := p9.same s10
      have p11 := p10.same s11
      have q5p : q5 ≠ p := fun e => p10.ne hq5 e.symm
      refine ⟨_, rfl, p, 8, rfl, by decide, by decide, p11, fun r3 H12 hr3 x12 p12 => ?_⟩
      have k12 : WordAt H12 q4 [t0] := wordExc x12 (p11.word (Same.word s11 k10)) (Same.word s11 k10)
      obtain ⟨ov, hom, eo⟩ : ∃ ov, ov ∈ odds ∧ odds[r3]? = some ov := ⟨odds[r3]'hr3, List.getElem_mem (show r3 < odds.length from hr3), List.getElem?_eq_getElem hr3⟩
      refine ⟨q5, _, _, _, rfl, rfl, SqL.of (x12 _ _ (by simpa using q5p) k11), atI_nat eo, ?_⟩
      have x9 : Exc [p] H9 H12 := (Exc.of (s10.trans s11)).trans x12
      have wa12 := wordExc x9 (p9.word wa9) wa9
      have w12 := wordExc x9 (p9.word w9) w9
      have wf12 := wordExc x9 (p9.word wf) wf
      have e12 := Exc.same x9 e9 np0
      clear x9 s10 s11 x12 k10 k11 p9 p10 p11 wa9 w9 wf e9 hq4 hq5 wa10 eo q5p
      -- spoilt
      refine ⟨_, rfl, _, rfl, _, _, rfl, .inl (SqL.of w12), _, _, rfl, rfl, ?_⟩
      refine ⟨p, wd.length + 1, by rw [vS_len]; rfl, by omega, by omega, p12, fun pl H13 hpl x13 p13 => ?_⟩
      have wa13 := wordExc x13 (p12.word wa12) wa12
      have w13 := wordExc x13 (p12.word w12) w12
      have wf13 := wordExc x13 (p12.word wf12) wf12
      have e13 := Exc.same x13 e12 np0
      have k13 : WordAt H13 q4 [t0] := wordExc x13 (p12.word k12) k12
      have hodd : ∀ v ∈ odds, Lst K H13 [v] := by
        intro v hv
        have hv : v = .str (t0 ++ Str.ofString "q") ∨ v = .non ∨ v = .int 0 ∨ v = .str (Str.ofString "") ∨ v = .ref q4 ∨ v = .str (Str.ofString "A") ∨ v = .str t0 ∨ v = .str (Str.ofString "-") := by simpa [odds] using hv
        have ok0 := hn0.txt
        have l1 : (Str.ofString "q").length = 1 := by decide
        rcases hv with rfl | rfl | rfl | rfl | rfl | rfl | rfl | rfl
        · exact Lst.cons (.str _) (el_str (strOk_add ok0 (by decide +kernel)) (by rw [len_add]; omega)) (Kd.str _) .nil
        · exact Lst.cons .non el_none Kd.non .nil
        · exact Lst.cons (.int 0) el_int0 (Kd.int 0) .nil
        · exact Lst.cons (.str _) (el_str (by decide +kernel) (by decide)) (Kd.str _) .nil
        · exact Lst.cons (dp_wd k13) (el_strs (fun t ht => by rw [List.mem_singleton.mp ht]; exact ⟨ok0, by omega⟩) (Nat.le_refl 1)) (Kd.lst k13) .nil
        · exact Lst.cons (.str _) (el_str (by decide +kernel) (by decide)) (Kd.str _) .nil
        · exact Lst.cons (.str _) (el_str ok0 (by omega)) (Kd.str _) .nil
        · exact Lst.cons (.str _) (el_str (by decide +kernel) (by decide)) (Kd.str _) .nil
      have hov := hodd ov hom
      clear hodd hom k13 k12 x13 p12 wa12 w12 wf12 e12
      refine ⟨_, rfl, _, rfl, _, rfl, q1, _, rfl, SqL.of w13, fun z1 hz1 => ?_⟩
      have ecl : cutV (vS wd) none (some (pl : Int)) = vS (wd.take pl) := (cut_take (vS wd) pl).trans (vS_take wd pl)
      have ecr : cutV (vS wd) (some (pl : Int)) none = vS (wd.drop pl) := (cut_drop (vS wd) pl).trans (vS_drop wd pl)
      rw [ecl]
      have t1 := same_new (o := .lst (vS (wd.take pl))) hz1
      have m1 : (upd H13 z1 (.lst (vS (wd.take pl)))) z1 = some (.lst (vS (wd.take pl))) := upd_same
      generalize upd H13 z1 (.lst (vS (wd.take pl))) = G1 at t1 m1 ⊢
      refine ⟨_, rfl, by show 1 ≤ sizeLine; decide, fun z2 hz2 => ?_⟩
      have t2 := same_new (o := .lst [ov]) hz2
      have m2 : (upd G1 z2 (.lst [ov])) z2 = some (.lst [ov]) := upd_same
      have m12 := t2 _ _ m1
      generalize upd G1 z2 (.lst [ov]) = G2 at t2 m2 m12 ⊢
      have ltk : (wd.take pl).length ≤ 8 := by rw [List.length_take]; omega
      have ldr : (wd.drop pl).length ≤ 8 := by rw [List.length_drop]; omega
      refine ⟨z1, z2, _, _, rfl, rfl, m12, m2, by rw [vS_len]; exact sz_le (by show _ + 1 ≤ _; omega), fun z3 hz3 => ?_⟩
      have t3 := same_new (o := .lst (vS (wd.take pl) ++ [ov])) hz3
      have m3 : (upd G2 z3 (.lst (vS (wd.take pl) ++ [ov]))) z3 = some (.lst (vS (wd.take pl) ++ [ov])) := upd_same
      generalize upd G2 z3 (.lst (vS (wd.take pl) ++ [ov])) = G3 at t3 m3 ⊢
      have t03 := t1.trans (t2.trans t3)
      refine ⟨_, rfl, _, rfl, _, rfl, q1, _, rfl, SqL.of (Same.word t03 w13), fun z4 hz4 => ?_⟩
      rw [ecr]
      have t4 := same_new (o := .lst (vS (wd.drop pl))) hz4
      have m4 : (upd G3 z4 (.lst (vS (wd.drop pl)))) z4 = some (.lst (vS (wd.drop pl))) := upd_same
      have m34 := t4 _ _ m3
      generalize upd G3 z4 (.lst (vS (wd.drop pl))) = G4 at t4 m4 m34 ⊢
      refine ⟨z3, z4, _, _, rfl, rfl, m34, m4, by rw [List.length_append, vS_len, vS_len]; exact sz_le (by show _ + 1 + _ ≤ _; omega), fun q5 hq5 => ?_⟩
      have Lsp : Lst K H13 (vS (wd.take pl) ++ [ov] ++ vS (wd.drop pl)) := Lst.app (Lst.app (Lst.words to fun t ht => hin t (List.mem_of_mem_take ht)) hov) (Lst.words to fun t ht => hin t (List.mem_of_mem_drop ht))
      have lsp : (vS (wd.take pl) ++ [ov] ++ vS (wd.drop pl)).length ≤ 17 := by
        rw [List.length_append, List.length_append, vS_len, vS_len]
        show _ + 1 + _ ≤ 17
        omega
      generalize vS (wd.take pl) ++ [ov] ++ vS (wd.drop pl) = sp at Lsp lsp ⊢
      have t5 := same_new (o := .lst sp) hq5
      have ksp : (upd G4 q5 (.lst sp)) q5 = some (.lst sp) := upd_same
      have tA := t03.trans (t4.trans t5)
      generalize upd G4 q5 (.lst sp) = H14 at t5 ksp tA ⊢
      have wa14 := Same.word tA wa13
      have w14 := Same.word tA w13
      have wf14 := Same.word tA wf13
      have e14 := e13.trans tA
      have p14 := p13.same tA
      have Lsp := Lsp.same tA
      clear t1 t2 t3 t4 t5 t03 m1 m2 m12 m3 m4 m34 hz1 hz2 hz3 hz4 hq5 tA wa13 w13 wf13 e13 p13 ltk ldr hov ecl ecr
      show tSeq _ _ _ (List.set _ 8 _) _
      generalize hσ : (List.set _ 8 _) = σ8
      have eσ : σ8 = [some (.ref l), some (.int (0 + (i : Int))), some (.ref p), some (.ref a), some (.ref q1), some (.ref q3), some ov, some (.int (pl : Int)), some (.ref q5), v9, v10, v11, v12, v13, v14, v15, v16, v17] := by
        rw [← hσ]
        rfl
      subst eσ
      clear hσ
      -- the things
      refine ⟨_, rfl, _, rfl, _, rfl, by show 1 ≤ sizeLine; decide, fun z1 hz1 => ?_⟩
      have t1 := same_new (o := .lst [V.non]) hz1
      have m1 : (upd H14 z1 (.lst [V.non])) z1 = some (.lst [V.non]) := upd_same
      have msp := t1 _ _ ksp
      generalize upd H14 z1 (.lst [V.non]) = G1 at t1 m1 msp ⊢
      refine ⟨q5, z1, _, _, rfl, rfl, msp, m1, by exact sz_le (by show _ + 1 ≤ _; omega), fun z2 hz2 => ?_⟩
      have t2 := same_new (o := .lst (sp ++ [V.non])) hz2
      have m2 : (upd G1 z2 (.lst (sp ++ [V.non]))) z2 = some (.lst (sp ++ [V.non])) := upd_same
      generalize upd G1 z2 (.lst (sp ++ [V.non])) = G2 at t2 m2 ⊢
      have t02 := t1.trans t2
      have w14b := Same.word t02 w14
      refine ⟨_, rfl, _, rfl, q1, _, rfl, .inl ⟨SqL.of w14b, fun q6 hq6 => ?_⟩⟩
      have t3 := same_new (o := .tup (vS wd)) hq6
      have m3 : (upd G2 q6 (.tup (vS wd))) q6 = some (.tup (vS wd)) := upd_same
      generalize upd G2 q6 (.tup (vS wd)) = G3 at t3 m3 ⊢
      have t03 := t02.trans t3
      refine ⟨_, rfl, a, _, _, _, rfl, rfl, SqL.of (Same.word t03 wa14), atI_nat (j := 0) (vS_get et0), ?_⟩
      refine ⟨by show 1 ≤ sizeLine; decide, fun z3 hz3 => ?_⟩
      have t4 := same_new (o := .lst [V.non]) hz3
      have m4 : (upd G3 z3 (.lst [V.non])) z3 = some (.lst [V.non]) := upd_same
      generalize upd G3 z3 (.lst [V.non]) = G4 at t4 m4 ⊢
      refine ⟨z3, (201 : Int), _, rfl, rfl, m4, by decide, by decide, by show 1 * 201 ≤ sizeLine; decide, fun z4 hz4 => ?_⟩
      have e201 : (List.replicate (201 : Int).toNat [V.non]).flatten = List.replicate 201 V.non := flat_rep1 _ _
      rw [e201]
      have t5 := same_new (o := .lst (List.replicate 201 V.non)) hz4
      have m5 : (upd G4 z4 (.lst (List.replicate 201 V.non))) z4 = some (.lst (List.replicate 201 V.non)) := upd_same
      generalize upd G4 z4 (.lst (List.replicate 201 V.non)) = G5 at t5 m5 ⊢
      refine ⟨by show 0 ≤ sizeLine; decide, fun z5 hz5 => ?_⟩
      have t6 := same_new (o := .lst ([] : List V)) hz5
      have m6 : (upd G5 z5 (.lst [])) z5 = some (.lst []) := upd_same
      generalize upd G5 z5 (.lst []) = G6 at t6 m6 ⊢
      refine ⟨by show 9 ≤ sizeLine; decide, fun OL hOL => ?_⟩
      have t7 := same_new (o := .lst [V.ref q1, V.ref q5, V.ref z2, V.ref q3, V.ref q6, V.non, V.str t0, V.ref z4, V.ref z5]) hOL
      have kOL : (upd G6 OL (.lst [V.ref q1, V.ref q5, V.ref z2, V.ref q3, V.ref q6, V.non, V.str t0, V.ref z4, V.ref z5])) OL = some (.lst [V.ref q1, V.ref q5, V.ref z2, V.ref q3, V.ref q6, V.non, V.str t0, V.ref z4, V.ref z5]) := upd_same
      have c1 := t6.trans t7
      have c2 := t5.trans c1
      have c3 := t4.trans c2
      have c4 := t3.trans c3
      have c5 := t2.trans c4
      have c6 := t1.trans c5
      have hIt : ∀ v ∈ [V.ref q1, V.ref q5, V.ref z2, V.ref q3, V.ref q6, V.non, V.str t0, V.ref z4, V.ref z5], ItemS K (upd G6 OL (.lst [V.ref q1, V.ref q5, V.ref z2, V.ref q3, V.ref q6, V.non, V.str t0, V.ref z4, V.ref z5])) tags v := by
        intro v hv
        have hv : v = .ref q1 ∨ v = .ref q5 ∨ v = .ref z2 ∨ v = .ref q3 ∨ v = .ref q6 ∨ v = .non ∨ v = .str t0 ∨ v = .ref z4 ∨ v = .ref z5 := by simpa using hv
        have Lw : Lst K (upd G6 OL (.lst [V.ref q1, V.ref q5, V.ref z2, V.ref q3, V.ref q6, V.non, V.str t0, V.ref z4, V.ref z5])) (vS wd) := Lst.words to hin
        rcases hv with rfl | rfl | rfl | rfl | rfl | rfl | rfl | rfl | rfl
        · exact itemS_list to (Same.word c6 w14) Lw (by rw [vS_len]; omega)
        · exact itemS_list to (c6 _ _ ksp) (Lsp.same c6) (by omega)
        · exact itemS_list to (c4 _ _ m2) ((Lsp.same c6).app (Lst.cons .non el_none Kd.non .nil)) (by rw [List.length_append]; show _ + 1 ≤ _; omega)
        · exact itemS_list to (Same.word c6 wf14) (Lst.words to fun t ht => by rw [List.eq_of_mem_replicate ht]; exact ht0) (by rw [vS_len, List.length_replicate]; omega)
        · refine ⟨subj_of_no (NoL.tup (c3 _ _ m3)), ?_⟩
          obtain ⟨ds, h1, h2, _⟩ := Lw
          exact ⟨_, .tup (SqT.of (c3 _ _ m3)) h1, shows_tuple h2 (by rw [dpAll_len h1, vS_len]; omega)⟩
        · exact ⟨subj_of_no NoL.non, _, .non, ⟨rfl, rfl, rfl, Nat.zero_le _, Nat.zero_le _⟩⟩
        · have ok0 := hn0.txt
          exact ⟨subj_of_no (NoL.str _), _, .str t0, ⟨by rw [PyData.canLay0]; exact ok0, rfl, rfl, by rw [PyData.weight]; exact (show t0.length ≤ 1000000 by omega), by simp [PyData.depth]⟩⟩
        · exact itemS_list to (c1 _ _ m5) (Lst.nones 201) (by rw [List.length_replicate]; decide)
        · exact itemS_list to (t7 _ _ m6) .nil (by decide)
      have wa15 := Same.word c6 wa14
      have w15 := Same.word c6 w14
      have wf15 := Same.word c6 wf14
      have e15 := e14.trans c6
      have p15 := p14.same c6
      clear c1 c2 c3 c4 c5 c6 t1 t2 t3 t4 t5 t6 t7 t02 t03 m1 m2 m3 m4 m5 m6 msp hz1 hz2 hz3 hz4 hz5 hq6 hOL w14b wa14 w14 wf14 e14 p14 Lsp lsp ksp e201
      generalize upd G6 OL (.lst [V.ref q1, V.ref q5, V.ref z2, V.ref q3, V.ref q6, V.non, V.str t0, V.ref z4, V.ref z5]) = H15 at kOL hIt wa15 w15 wf15 e15 p15 ⊢
      generalize [V.ref q1, V.ref q5, V.ref z2, V.ref q3, V.ref q6, V.non, V.str t0, V.ref z4, V.ref z5] = things at kOL hIt
      refine ⟨_, rfl, ⟨_, SqL.of kOL⟩, ?_⟩
      refine for_it (walk_list (K := K) (a := OL) (xs := things)) (fun j σ H' => ∃ v9 v10 v11 v12 v13 v14 v15 v16 v17 : Option V, σ = [some (.ref l), some (.int (0 + (i : Int))), some (.ref p), some (.ref a), some (.ref q1), some (.ref q3), some ov, some (.int (pl : Int)), some (.ref q5), v9, v10, v11, v12, v13, v14, v15, v16, v17] ∧ Same H15 H')
        ⟨_, _, _, _, _, _, _, _, _, rfl, Same.refl _⟩ (fun j σ H' _ ⟨_, _, _, _, _, _, _, _, _, _, z⟩ => SqL.of (z _ _ kOL)) ?_ ?_
      · clear v9 v10 v11 v12 v13 v14 v15 v16 v17
        rintro j x σ H16 H17 hj ⟨v9, v10, v11, v12, v13, v14, v15, v16, v17, rfl, s16⟩ ⟨rfl, hx⟩
        obtain ⟨⟨s, d, sd, td⟩, e, de, she⟩ := (hIt x (List.mem_of_getElem? hx)).same s16
        have wa := Same.word s16 wa15
        refine ⟨_, rfl, x, e, rfl, de, she, ?_⟩
        refine ⟨_, rfl, _, rfl, .ref a, x, 0, s, d, rfl, by decide, sd.out wa to, fun p1 H18 s18 n18 t18 => ?_⟩
        refine ⟨_, rfl, _, rfl, a, tags, x, s, d, rfl, Same.word s18 wa, to, sd.same s18, fun p2 H19 s19 n19 t19 => ?_⟩
        refine ne_told (t18.same s19) t19 td ?_
        refine ⟨_, rfl, iteF ?_⟩
        have s89 := s18.trans s19
        refine ⟨_, rfl, x, e, rfl, dp_same s89 e x de, she, _, rfl, rfl, _, rfl, ?_⟩
        rw [decide_eq_true rfl]
        refine iteF ?_
        exact ⟨_, _, _, _, _, _, _, _, _, rfl, s16.trans s89⟩
      rintro σ H16 ⟨v9, v10, v11, v12, v13, v14, v15, v16, v17, rfl, s16⟩
      have wa16 := Same.word s16 wa15
      have w16 := Same.word s16 w15
      have wf16 := Same.word s16 wf15
      have e16 := e15.trans s16
      have p16 := p15.same s16
      clear hIt kOL wa15 w15 wf15 e15 p15 s16
      -- the text
      have okw := sub_ok to hin
      have sh1 := short_in to hin
      refine ⟨_, rfl, q1, wd, rfl, w16, okw, by unfold ShortW; omega, fun H17 s17 => ?_⟩
      have ltx : (writ wd).length ≤ 73 := by
        have := writ_len (wd := wd)
        omega
      have otx := writ_ok okw
      generalize writ wd = tx at ltx otx ⊢
      have wa17 := Same.word s17 wa16
      have w17 := Same.word s17 w16
      have wf17 := Same.word s17 wf16
      have e17 := e16.trans s17
      have p17 := p16.same s17
      clear s17 wa16 w16 wf16 e16 p16
      refine ⟨_, rfl, _, rfl, p, tx, rfl, p17, by omega, otx, fun u1 H18 x18 p18 lu1 ou1 => ?_⟩
      refine ⟨_, rfl, _, rfl, _, rfl, _, rfl, p, u1, rfl, p18, by omega, ou1, fun u2 H19 x19 p19 lu2 ou2 => ?_⟩
      have x17 := x18.trans x19
      have wa19 := wordExc x17 (p17.word wa17) wa17
      have w19 := wordExc x17 (p17.word w17) w17
      have wf19 := wordExc x17 (p17.word wf17) wf17
      have e19 := Exc.same x17 e17 np0
      clear x17 x18 x19 p18 p17 wa17 w17 wf17 e17
      have fin : ∀ t ∈ List.replicate (199 + r2) t0, t ∈ tags := fun t ht => by rw [List.eq_of_mem_replicate ht]; exact ht0
      have shf := short_in to fin
      rw [List.length_replicate] at shf
      refine ⟨_, rfl, q3, _, rfl, wf19, sub_ok to fin, by unfold ShortW; rw [List.length_replicate]; omega, fun H20 s20 => ?_⟩
      have lwf : (writ (List.replicate (199 + r2) t0)).length ≤ 2000 := by
        have := writ_len (wd := List.replicate (199 + r2) t0)
        rw [List.length_replicate] at this
        omega
      have owf := writ_ok (sub_ok to fin)
      refine ⟨by show 9 ≤ sizeLine; decide, fun TL hTL => ?_⟩
      have s21 := same_new (o := .lst [V.str tx, V.str u1, V.str u2, V.str (writ (List.replicate (199 + r2) t0)), V.str (Str.ofString ""), V.str (Str.ofString "-"), V.str (Str.ofString "--"), V.str (Str.ofString "- -"), V.str (Str.ofString " -")]) hTL
      have kTL : (upd H20 TL (.lst [V.str tx, V.str u1, V.str u2, V.str (writ (List.replicate (199 + r2) t0)), V.str (Str.ofString ""), V.str (Str.ofString "-"), V.str (Str.ofString "--"), V.str (Str.ofString "- -"), V.str (Str.ofString " -")])) TL = some (.lst [V.str tx, V.str u1, V.str u2, V.str (writ (List.replicate (199 + r2) t0)), V.str (Str.ofString ""), V.str (Str.ofString "-"), V.str (Str.ofString "--"), V.str (Str.ofString "- -"), V.str (Str.ofString " -")]) := upd_same
      have hTx : ∀ v ∈ [V.str tx, V.str u1, V.str u2, V.str (writ (List.replicate (199 + r2) t0)), V.str (Str.ofString ""), V.str (Str.ofString "-"), V.str (Str.ofString "--"), V.str (Str.ofString "- -"), V.str (Str.ofString " -")], Tx 3000 v := by
        intro v hv
        have hv : v = .str tx ∨ v = .str u1 ∨ v = .str u2 ∨ v = .str (writ (List.replicate (199 + r2) t0)) ∨ v = .str (Str.ofString "") ∨ v = .str (Str.ofString "-") ∨ v = .str (Str.ofString "--") ∨ v = .str (Str.ofString "- -") ∨ v = .str (Str.ofString " -") := by simpa using hv
        rcases hv with rfl | rfl | rfl | rfl | rfl | rfl | rfl | rfl | rfl
        · exact ⟨_, rfl, by omega, otx⟩
        · exact ⟨_, rfl, by omega, ou1⟩
        · exact ⟨_, rfl, by omega, ou2⟩
        · exact ⟨_, rfl, by omega, owf⟩
        all_goals exact ⟨_, rfl, by decide, by decide +kernel⟩
      have s1921 := s20.trans s21
      have wa21 := Same.word s1921 wa19
      have w21 := Same.word s1921 w19
      have e21 := e19.trans s1921
      generalize upd H20 TL (.lst [V.str tx, V.str u1, V.str u2, V.str (writ (List.replicate (199 + r2) t0)), V.str (Str.ofString ""), V.str (Str.ofString "-"), V.str (Str.ofString "--"), V.str (Str.ofString "- -"), V.str (Str.ofString " -")]) = H21 at s21 kTL wa21 w21 e21 ⊢
      have ltl : ([V.str tx, V.str u1, V.str u2, V.str (writ (List.replicate (199 + r2) t0)), V.str (Str.ofString ""), V.str (Str.ofString "-"), V.str (Str.ofString "--"), V.str (Str.ofString "- -"), V.str (Str.ofString " -")]).length = 9 := rfl
      generalize [V.str tx, V.str u1, V.str u2, V.str (writ (List.replicate (199 + r2) t0)), V.str (Str.ofString ""), V.str (Str.ofString "-"), V.str (Str.ofString "--"), V.str (Str.ofString "- -"), V.str (Str.ofString " -")] = texts at kTL hTx ltl
      clear s20 s21 s1921 wa19 w19 wf19 e19 p19 shf fin lwf owf lu2 ou2
      show tSeq _ _ _ (List.set _ 13 _) _
      generalize hσ : (List.set _ 13 _) = σ13
      have eσ : σ13 = [some (.ref l), some (.int (0 + (i : Int))), some (.ref p), some (.ref a), some (.ref q1), some (.ref q3), some ov, some (.int (pl : Int)), some (.ref q5), v9, v10, some (.str tx), some (.str u1), some (.ref TL), v14, v15, v16, v17] := by
        rw [← hσ]
        rfl
      subst eσ
      clear hσ
      -- texts read
      refine ⟨_, rfl, _, rfl, by show 3 ≤ sizeLine; decide, fun z1 hz1 => ?_⟩
      have t1 := same_new (o := .lst [V.non, V.int 0, V.ref q1]) hz1
      have m1 : (upd H21 z1 (.lst [V.non, V.int 0, V.ref q1])) z1 = some (.lst [V.non, V.int 0, V.ref q1]) := upd_same
      have mTL := t1 _ _ kTL
      generalize upd H21 z1 (.lst [V.non, V.int 0, V.ref q1]) = G1 at t1 m1 mTL ⊢
      refine ⟨TL, z1, _, _, rfl, rfl, mTL, m1, by rw [ltl]; show 12 ≤ sizeLine; decide, fun z2 hz2 => ?_⟩
      have t2 := same_new (o := .lst (texts ++ [V.non, V.int 0, V.ref q1])) hz2
      have m2 : (upd G1 z2 (.lst (texts ++ [V.non, V.int 0, V.ref q1]))) z2 = some (.lst (texts ++ [V.non, V.int 0, V.ref q1])) := upd_same
      generalize upd G1 z2 (.lst (texts ++ [V.non, V.int 0, V.ref q1])) = H22 at t2 m2 ⊢
      have t12 := t1.trans t2
      have wa22 := Same.word t12 wa21
      have w22 := Same.word t12 w21
      have e22 := e21.trans t12
      clear t1 t2 m1 mTL t12 wa21 w21 e21 hz1 hz2 kTL
      have hIt : ∀ v ∈ texts ++ [V.non, V.int 0, V.ref q1], ∃ s d, TextDue K H22 tags v s d ∧ ToldD s d := by
        intro v hv
        rcases List.mem_append.mp hv with hv | hv
        · obtain ⟨u, rfl, h1, h2⟩ := hTx v hv
          exact text_of_str to (by omega) h2
        · have hv : v = .non ∨ v = .int 0 ∨ v = .ref q1 := by simpa using hv
          rcases hv with rfl | rfl | rfl
          · exact text_of_no rfl Kd.non
          · exact text_of_no rfl (Kd.int 0)
          · exact text_of_no rfl (Kd.lst w22)
      generalize texts ++ [V.non, V.int 0, V.ref q1] = things2 at m2 hIt
      refine ⟨_, rfl, ⟨_, SqL.of m2⟩, ?_⟩
      refine for_it (walk_list (K := K) (a := z2) (xs := things2)) (fun j σ H' => ∃ v9 : Option V, σ = [some (.ref l), some (.int (0 + (i : Int))), some (.ref p), some (.ref a), some (.ref q1), some (.ref q3), some ov, some (.int (pl : Int)), some (.ref q5), v9, v10, some (.str tx), some (.str u1), some (.ref TL), v14, v15, v16, v17] ∧ Same H22 H')
        ⟨_, rfl, Same.refl _⟩ (fun j σ H' _ ⟨_, _, z⟩ => SqL.of (z _ _ m2)) ?_ ?_
      · clear v9
        rintro j x σ H23 H24 hj ⟨v9, rfl, s23⟩ ⟨rfl, hx⟩
        obtain ⟨s, d, sd, td⟩ := hIt x (List.mem_of_getElem? hx)
        have sd := sd.same s23
        have wa := Same.word s23 wa22
        refine ⟨_, rfl, _, rfl, .ref a, x, 1, s, d, rfl, by decide, sd.out wa to, fun p1 H25 s25 n25 t25 => ?_⟩
        refine ⟨_, rfl, _, rfl, a, tags, x, s, d, rfl, Same.word s25 wa, okt, sd.same s25, fun p2 H26 s26 n26 t26 => ?_⟩
        refine ne_told (t25.same s26) t26 td ?_
        refine ⟨_, rfl, iteF ?_⟩
        exact ⟨_, rfl, s23.trans (s25.trans s26)⟩
      rintro σ H23 ⟨v9, rfl, s23⟩
      have wa23 := Same.word s23 wa22
      have w23 := Same.word s23 w22
      have e23 := e22.trans s23
      clear hIt m2 wa22 w22 e22 s23
      -- tags that are refused
      have ec : cutV (vS tags) none (some 1) = vS [t0] := by rw [← etk]; exact (cut_take (vS tags) 1).trans (vS_take tags 1)
      refine ⟨_, rfl, _, rfl, _, rfl, a, _, rfl, SqL.of wa23, fun z1 hz1 => ?_⟩
      rw [ec]
      have t1 := same_new (o := .lst (vS [t0])) hz1
      have m1 : (upd H23 z1 (.lst (vS [t0]))) z1 = some (.lst (vS [t0])) := upd_same
      generalize upd H23 z1 (.lst (vS [t0])) = G1 at t1 m1 ⊢
      refine ⟨a, z1, _, _, rfl, rfl, Same.word t1 wa23, m1, by rw [vS_len]; exact sz_le (by show _ + 1 ≤ _; omega), fun z2 hz2 => ?_⟩
      have ew : vS tags ++ vS [t0] = vS (tags ++ [t0]) := vS_append tags [t0]
      rw [ew]
      have t2 := same_new (o := .lst (vS (tags ++ [t0]))) hz2
      have m2 : WordAt (upd G1 z2 (.lst (vS (tags ++ [t0])))) z2 (tags ++ [t0]) := upd_same
      generalize upd G1 z2 (.lst (vS (tags ++ [t0]))) = G2 at t2 m2 ⊢
      have t12 := t1.trans t2
      refine ⟨_, rfl, _, _, rfl, .inl (SqL.of (Same.word t12 wa23)), ?_⟩
      rw [vS_len]
      refine ⟨by show 2 ≤ sizeLine; decide, fun T1 hT1 => ?_⟩
      have t3 := same_new (o := .tup [V.ref z2, V.int (tags.length : Int)]) hT1
      have m3 : (upd G2 T1 (.tup [V.ref z2, V.int (tags.length : Int)])) T1 = some (.tup [V.ref z2, V.int (tags.length : Int)]) := upd_same
      generalize upd G2 T1 (.tup [V.ref z2, V.int (tags.length : Int)]) = G3 at t3 m3 ⊢
      refine ⟨by show 0 ≤ sizeLine; decide, fun z3 hz3 => ?_⟩
      have t4 := same_new (o := .lst ([] : List V)) hz3
      have m4 : (upd G3 z3 (.lst [])) z3 = some (.lst []) := upd_same
      generalize upd G3 z3 (.lst []) = G4 at t4 m4 ⊢
      refine ⟨by show 2 ≤ sizeLine; decide, fun T2 hT2 => ?_⟩
      have t5 := same_new (o := .tup [V.ref z3, V.non]) hT2
      have m5 : (upd G4 T2 (.tup [V.ref z3, V.non])) T2 = some (.tup [V.ref z3, V.non]) := upd_same
      generalize upd G4 T2 (.tup [V.ref z3, V.non]) = G5 at t5 m5 ⊢
      refine ⟨by show 2 ≤ sizeLine; decide, fun T3 hT3 => ?_⟩
      have t6 := same_new (o := .tup [V.non, V.non]) hT3
      have m6 : (upd G5 T3 (.tup [V.non, V.non])) T3 = some (.tup [V.non, V.non]) := upd_same
      generalize upd G5 T3 (.tup [V.non, V.non]) = G6 at t6 m6 ⊢
      have t36 := t3.trans (t4.trans (t5.trans t6))
      have t16 := t12.trans t36
      refine ⟨_, rfl, _, rfl, a, _, rfl, SqL.of (Same.word t16 wa23), fun z4 hz4 => ?_⟩
      rw [ec]
      have t7 := same_new (o := .lst (vS [t0])) hz4
      have m7 : (upd G6 z4 (.lst (vS [t0]))) z4 = some (.lst (vS [t0])) := upd_same
      generalize upd G6 z4 (.lst (vS [t0])) = G7 at t7 m7 ⊢
      refine ⟨by show 1 ≤ sizeLine; decide, fun z5 hz5 => ?_⟩
      have t8 := same_new (o := .lst [V.str (Str.ofString "a b")]) hz5
      have m8 : (upd G7 z5 (.lst [V.str (Str.ofString "a b")])) z5 = some (.lst (vS [Str.ofString "a b"])) := upd_same
      have m78 := t8 _ _ m7
      generalize upd G7 z5 (.lst [V.str (Str.ofString "a b")]) = G8 at t8 m8 m78 ⊢
      refine ⟨z4, z5, _, _, rfl, rfl, m78, m8, by show 2 ≤ sizeLine; decide, fun z6 hz6 => ?_⟩
      have t9 := same_new (o := .lst (vS [t0] ++ vS [Str.ofString "a b"])) hz6
      have m9 : WordAt (upd G8 z6 (.lst (vS [t0] ++ vS [Str.ofString "a b"]))) z6 [t0, Str.ofString "a b"] := upd_same
      generalize upd G8 z6 (.lst (vS [t0] ++ vS [Str.ofString "a b"])) = G9 at t9 m9 ⊢
      refine ⟨by show 2 ≤ sizeLine; decide, fun T4 hT4 => ?_⟩
      have t10 := same_new (o := .tup [V.ref z6, V.int 1]) hT4
      have m10 : (upd G9 T4 (.tup [V.ref z6, V.int 1])) T4 = some (.tup [V.ref z6, V.int 1]) := upd_same
      generalize upd G9 T4 (.tup [V.ref z6, V.int 1]) = G10 at t10 m10 ⊢
      refine ⟨by show 4 ≤ sizeLine; decide, fun WL hWL => ?_⟩
      have t11 := same_new (o := .lst [V.ref T1, V.ref T2, V.ref T3, V.ref T4]) hWL
      have kWL : (upd G10 WL (.lst [V.ref T1, V.ref T2, V.ref T3, V.ref T4])) WL = some (.lst [V.ref T1, V.ref T2, V.ref T3, V.ref T4]) := upd_same
      generalize upd G10 WL (.lst [V.ref T1, V.ref T2, V.ref T3, V.ref T4]) = H24 at t11 kWL ⊢
      have c1 := t10.trans t11
      have c2 := t9.trans c1
      have c3 := (t7.trans t8).trans c2
      have c4 := t6.trans c3
      have c5 := t5.trans c4
      have c6 := t4.trans c5
      have c7 := t3.trans c6
      have c8 := t12.trans c7
      have ab : OkWord (tags ++ [t0]) := fun t ht => by
        rcases List.mem_append.mp ht with h | h
        · exact okt t h
        · rw [List.mem_singleton.mp h]
          exact hn0.txt
      have ab2 : OkWord [t0, Str.ofString "a b"] := fun t ht => by
        have ht : t = t0 ∨ t = Str.ofString "a b" := by simpa using ht
        rcases ht with rfl | rfl
        · exact hn0.txt
        · decide +kernel
      have hIt : ∀ v ∈ [V.ref T1, V.ref T2, V.ref T3, V.ref T4], WItem K H24 tags t0 v := by
        intro v hv
        have hv : v = .ref T1 ∨ v = .ref T2 ∨ v = .ref T3 ∨ v = .ref T4 := by simpa using hv
        rcases hv with rfl | rfl | rfl | rfl
        · exact ⟨T1, _, _, rfl, c6 _ _ m3, _, dp_wd (Same.word c7 m2), shaped_of enc_word (by decide) ab, .int _, wrong_more to ht0 (Same.word c7 m2)⟩
        · refine ⟨T2, _, _, rfl, c4 _ _ m5, .list [], .lst (SqL.of (c5 _ _ m4)) .nil, by decide +kernel, .non, .inl (.inr ⟨z3, [], rfl, c5 _ _ m4, .inl ⟨by decide, rfl⟩⟩)⟩
        · exact ⟨T3, _, _, rfl, c3 _ _ m6, .none, .non, by decide +kernel, .non, .inl (.inl ⟨NoL.non, rfl⟩)⟩
        · exact ⟨T4, _, _, rfl, t11 _ _ m10, _, dp_wd (Same.word c1 m9), shaped_of enc_word (by decide) ab2, .int 1, .inl (wrong_ab hn0 (Same.word c1 m9))⟩
      have wa24 := Same.word c8 wa23
      have w24 := Same.word c8 w23
      have e24 := e23.trans c8
      clear c1 c2 c3 c4 c5 c6 c7 c8 t1 t2 t3 t4 t5 t6 t7 t8 t9 t10 t11 t12 t36 t16 m1 m2 m3 m4 m5 m6 m7 m8 m78 m9 m10 hz1 hz2 hz3 hz4 hz5 hz6 hT1 hT2 hT3 hT4 hWL wa23 w23 e23 ew
      generalize [V.ref T1, V.ref T2, V.ref T3, V.ref T4] = wrongs at kWL hIt
      refine ⟨_, rfl, ⟨_, SqL.of kWL⟩, ?_⟩
      refine for_it (walk_list (K := K) (a := WL) (xs := wrongs)) (fun j σ H' => ∃ v14 v15 v16 v17 : Option V, σ = [some (.ref l), some (.int (0 + (i : Int))), some (.ref p), some (.ref a), some (.ref q1), some (.ref q3), some ov, some (.int (pl : Int)), some (.ref q5), v9, v10, some (.str tx), some (.str u1), some (.ref TL), v14, v15, v16, v17] ∧ Same H24 H')
        ⟨_, _, _, _, rfl, Same.refl _⟩ (fun j σ H' _ ⟨_, _, _, _, _, z⟩ => SqL.of (z _ _ kWL)) ?_ ?_
      · clear v14 v15 v16 v17
        rintro j x σ H25 H26 hj ⟨v14, v15, v16, v17, rfl, s25⟩ ⟨rfl, hx⟩
        obtain ⟨T, wv, dv, rfl, kT, dw, hdw, shw, hdv, hW⟩ := hIt x (List.mem_of_getElem? hx)
        have wa := Same.word s25 wa24
        have w1 := Same.word s25 w24
        refine ⟨T, _, rfl, SqT.of (s25 _ _ kT), rfl, _, _, rfl, _, _, rfl, rfl, ?_⟩
        refine ⟨_, rfl, _, _, rfl, .inl (SqL.of wa), _, _, rfl, rfl, _, rfl, ?_⟩
        rw [vS_len]
        by_cases h6 : tags.length < 6
        · have hWT : WrongT K H24 wv dv := by
            rcases hW with h | ⟨h, _⟩
            · exact h
            · omega
          rw [decide_eq_true (by omega)]
          refine iteT ?_
          try refine iteT ?_
          refine ⟨by show 2 ≤ sizeLine; decide, fun YL hYL => ?_⟩
          have y1 := same_new (o := .lst [V.int 0, V.int 1]) hYL
          have kYL : (upd H26 YL (.lst [V.int 0, V.int 1])) YL = some (.lst [V.int 0, V.int 1]) := upd_same
          have sy := s25.trans y1
          generalize upd H26 YL (.lst [V.int 0, V.int 1]) = Hy at kYL sy ⊢
          clear y1 hYL
          have eyw : ∀ x ∈ [V.int 0, V.int 1], ∃ way : Nat, way ≤ 1 ∧ x = .int (way : Int) := by
            intro x hx
            have hx : x = .int 0 ∨ x = .int 1 := by simpa using hx
            rcases hx with rfl | rfl
            · exact ⟨0, by decide, rfl⟩
            · exact ⟨1, by decide, rfl⟩
          generalize [V.int 0, V.int 1] = ys at kYL eyw
          refine ⟨_, rfl, ⟨_, SqL.of kYL⟩, ?_⟩
          refine for_it (walk_list (K := K) (a := YL) (xs := ys)) (fun j σ H' => ∃ v16 v17 : Option V, σ = [some (.ref l), some (.int (0 + (i : Int))), some (.ref p), some (.ref a), some (.ref q1), some (.ref q3), some ov, some (.int (pl : Int)), some (.ref q5), v9, v10, some (.str tx), some (.str u1), some (.ref TL), some wv, some dv, v16, v17] ∧ Same Hy H')
            ⟨_, _, rfl, Same.refl _⟩ (fun j σ H' _ ⟨_, _, _, z⟩ => SqL.of (z _ _ kYL)) ?_ ?_
          · clear v16 v17
            rintro j2 x2 σ2 Ha Hb hj2 ⟨v16, v17, rfl, sa⟩ ⟨rfl, hx2⟩
            obtain ⟨way, hway, rfl⟩ := eyw x2 (List.mem_of_getElem? hx2)
            have say := sy.trans sa
            refine ⟨_, rfl, _, rfl, _, rfl, a, _, rfl, .inl ⟨SqL.of (Same.word say wa24), fun y1 hy1 => ?_⟩⟩
            have b1 := same_new (o := .tup (vS tags)) hy1
            generalize upd Hb y1 (.tup (vS tags)) = B1 at b1 ⊢
            refine ⟨by show 1 ≤ sizeLine; decide, fun y2 hy2 => ?_⟩
            have b2 := same_new (o := .lst [V.non]) hy2
            have n2 : (upd B1 y2 (.lst [V.non])) y2 = some (.lst [V.non]) := upd_same
            generalize upd B1 y2 (.lst [V.non]) = B2 at b2 n2 ⊢
            refine ⟨y2, (201 : Int), _, rfl, rfl, n2, by decide, by decide, by show 1 * 201 ≤ sizeLine; decide, fun y3 hy3 => ?_⟩
            have b3 := same_new (o := .lst (List.replicate (201 : Int).toNat [V.non]).flatten) hy3
            generalize upd B2 y3 (.lst (List.replicate (201 : Int).toNat [V.non]).flatten) = B3 at b3 ⊢
            refine ⟨by show 6 ≤ sizeLine; decide, fun TL2 hTL2 => ?_⟩
            have b4 := same_new (o := .lst [V.ref q1, V.str tx, V.non, V.int 0, V.ref y1, V.ref y3]) hTL2
            have n4 : (upd B3 TL2 (.lst [V.ref q1, V.str tx, V.non, V.int 0, V.ref y1, V.ref y3])) TL2 = some (.lst [V.ref q1, V.str tx, V.non, V.int 0, V.ref y1, V.ref y3]) := upd_same
            generalize upd B3 TL2 (.lst [V.ref q1, V.str tx, V.non, V.int 0, V.ref y1, V.ref y3]) = B4 at b4 n4 ⊢
            generalize [V.ref q1, V.str tx, V.non, V.int 0, V.ref y1, V.ref y3] = zs at n4
            have b14 := b1.trans (b2.trans (b3.trans b4))
            clear b1 b2 b3 b4 n2 hy1 hy2 hy3 hTL2
            refine ⟨_, rfl, ⟨_, SqL.of n4⟩, ?_⟩
            refine for_it (walk_list (K := K) (a := TL2) (xs := zs)) (fun j σ H' => ∃ v17 : Option V, σ = [some (.ref l), some (.int (0 + (i : Int))), some (.ref p), some (.ref a), some (.ref q1), some (.ref q3), some ov, some (.int (pl : Int)), some (.ref q5), v9, v10, some (.str tx), some (.str u1), some (.ref TL), some wv, some dv, some (.int (way : Int)), v17] ∧ Same B4 H')
              ⟨_, rfl, Same.refl _⟩ (fun j σ H' _ ⟨_, _, z⟩ => SqL.of (z _ _ n4)) ?_ ?_
            · clear v17
              rintro j3 x3 σ3 Hc Hd hj3 ⟨v17, rfl, sc⟩ ⟨rfl, hx3⟩
              have sall := say.trans (b14.trans sc)
              refine ⟨_, rfl, _, rfl, _, rfl, wv, x3, way, "tags", ivD dv, rfl, hway, .tags (hWT.same sall), fun p1 He se ne te => ?_⟩
              refine ⟨_, rfl, by show 2 ≤ sizeLine; decide, fun p2 hp2 => ?_⟩
              have sf := same_new (o := .lst [V.str (Str.ofString "tags"), dv]) hp2
              refine ne_told (te.same sf) ⟨dv, upd_same, dp_same (sall.trans (se.trans sf)) _ _ hdv⟩ (ivD_told (by decide +kernel)) ?_
              refine ⟨_, rfl, iteF ?_⟩
              exact ⟨_, rfl, sc.trans (se.trans sf)⟩
            · rintro σ3 Hc ⟨v17, rfl, sc⟩
              exact ⟨_, _, rfl, sa.trans (b14.trans sc)⟩
          · rintro σ2 Ha ⟨v16, v17, rfl, sa⟩
            exact ⟨_, _, _, _, rfl, sy.trans sa⟩
        rw [decide_eq_false (by omega)]
        refine iteF ?_
        refine ⟨_, rfl, _, rfl, _, rfl, _, rfl, a, _, rfl, SqL.of wa, fun z1 hz1 => ?_⟩
        rw [ec]
        have t1 := same_new (o := .lst (vS [t0])) hz1
        have m1 : (upd H26 z1 (.lst (vS [t0]))) z1 = some (.lst (vS [t0])) := upd_same
        generalize upd H26 z1 (.lst (vS [t0])) = G1 at t1 m1 ⊢
        refine ⟨a, z1, _, _, rfl, rfl, Same.word t1 wa, m1, by rw [vS_len]; exact sz_le (by show _ + 1 ≤ _; omega), fun z2 hz2 => ?_⟩
        rw [show vS tags ++ vS [t0] = vS (tags ++ [t0]) from vS_append tags [t0]]
        have t2 := same_new (o := .lst (vS (tags ++ [t0]))) hz2
        have m2 : WordAt (upd G1 z2 (.lst (vS (tags ++ [t0])))) z2 (tags ++ [t0]) := upd_same
        generalize upd G1 z2 (.lst (vS (tags ++ [t0]))) = G2 at t2 m2 ⊢
        have s2G := s25.trans (t1.trans t2)
        refine ⟨dw, _, dp_same s2G _ _ hdw, dp_wd m2, shw, shaped_of enc_word (by decide) ab, ?_⟩
        refine ⟨_, rfl, ?_⟩
        cases hb : (!PyData.eqv dw (dWord (tags ++ [t0]))) with
        | false =>
          refine iteF ?_
          exact ⟨_, _, _, _, rfl, s2G⟩
        | true =>
          have hWT : WrongT K H24 wv dv := by
            rcases hW with h | ⟨_, h⟩
            · exact h
            · rw [h, eqv_self (enc_word.lay _ ab)] at hb
              cases hb
          refine iteT ?_
          refine ⟨by show 2 ≤ sizeLine; decide, fun YL hYL => ?_⟩
          have y1 := same_new (o := .lst [V.int 0, V.int 1]) hYL
          have kYL : (upd G2 YL (.lst [V.int 0, V.int 1])) YL = some (.lst [V.int 0, V.int 1]) := upd_same
          have sy := s2G.trans y1
          generalize upd G2 YL (.lst [V.int 0, V.int 1]) = Hy at kYL sy ⊢
          clear y1 hYL
          have eyw : ∀ x ∈ [V.int 0, V.int 1], ∃ way : Nat, way ≤ 1 ∧ x = .int (way : Int) := by
            intro x hx
            have hx : x = .int 0 ∨ x = .int 1 := by simpa using hx
            rcases hx with rfl | rfl
            · exact ⟨0, by decide, rfl⟩
            · exact ⟨1, by decide, rfl⟩
          generalize [V.int 0, V.int 1] = ys at kYL eyw
          refine ⟨_, rfl, ⟨_, SqL.of kYL⟩, ?_⟩
          refine for_it (walk_list (K := K) (a := YL) (xs := ys)) (fun j σ H' => ∃ v16 v17 : Option V, σ = [some (.ref l), some (.int (0 + (i : Int))), some (.ref p), some (.ref a), some (.ref q1), some (.ref q3), some ov, some (.int (pl : Int)), some (.ref q5), v9, v10, some (.str tx), some (.str u1), some (.ref TL), some wv, some dv, v16, v17] ∧ Same Hy H')
            ⟨_, _, rfl, Same.refl _⟩ (fun j σ H' _ ⟨_, _, _, z⟩ => SqL.of (z _ _ kYL)) ?_ ?_
          · clear v16 v17
            rintro j2 x2 σ2 Ha Hb hj2 ⟨v16, v17, rfl, sa⟩ ⟨rfl, hx2⟩
            obtain ⟨way, hway, rfl⟩ := eyw x2 (List.mem_of_getElem? hx2)
            have say := sy.trans sa
            refine ⟨_, rfl, _, rfl, _, rfl, a, _, rfl, .inl ⟨SqL.of (Same.word say wa24), fun y1 hy1 => ?_⟩⟩
            have b1 := same_new (o := .tup (vS tags)) hy1
            generalize upd Hb y1 (.tup (vS tags)) = B1 at b1 ⊢
            refine ⟨by show 1 ≤ sizeLine; decide, fun y2 hy2 => ?_⟩
            have b2 := same_new (o := .lst [V.non]) hy2
            have n2 : (upd B1 y2 (.lst [V.non])) y2 = some (.lst [V.non]) := upd_same
            generalize upd B1 y2 (.lst [V.non]) = B2 at b2 n2 ⊢
            refine ⟨y2, (201 : Int), _, rfl, rfl, n2, by decide, by decide, by show 1 * 201 ≤ sizeLine; decide, fun y3 hy3 => ?_⟩
            have b3 := same_new (o := .lst (List.replicate (201 : Int).toNat [V.non]).flatten) hy3
            generalize upd B2 y3 (.lst (List.replicate (201 : Int).toNat [V.non]).flatten) = B3 at b3 ⊢
            refine ⟨by show 6 ≤ sizeLine; decide, fun TL2 hTL2 => ?_⟩
            have b4 := same_new (o := .lst [V.ref q1, V.str tx, V.non, V.int 0, V.ref y1, V.ref y3]) hTL2
            have n4 : (upd B3 TL2 (.lst [V.ref q1, V.str tx, V.non, V.int 0, V.ref y1, V.ref y3])) TL2 = some (.lst [V.ref q1, V.str tx, V.non, V.int 0, V.ref y1, V.ref y3]) := upd_same
            generalize upd B3 TL2 (.lst [V.ref q1, V.str tx, V.non, V.int 0, V.ref y1, V.ref y3]) = B4 at b4 n4 ⊢
            generalize [V.ref q1, V.str tx, V.non, V.int 0, V.ref y1, V.ref y3] = zs at n4
            have b14 := b1.trans (b2.trans (b3.trans b4))
            clear b1 b2 b3 b4 n2 hy1 hy2 hy3 hTL2
            refine ⟨_, rfl, ⟨_, SqL.of n4⟩, ?_⟩
            refine for_it (walk_list (K := K) (a := TL2) (xs := zs)) (fun j σ H' => ∃ v17 : Option V, σ = [some (.ref l), some (.int (0 + (i : Int))), some (.ref p), some (.ref a), some (.ref q1), some (.ref q3), some ov, some (.int (pl : Int)), some (.ref q5), v9, v10, some (.str tx), some (.str u1), some (.ref TL), some wv, some dv, some (.int (way : Int)), v17] ∧ Same B4 H')
              ⟨_, rfl, Same.refl _⟩ (fun j σ H' _ ⟨_, _, z⟩ => SqL.of (z _ _ n4)) ?_ ?_
            · clear v17
              rintro j3 x3 σ3 Hc Hd hj3 ⟨v17, rfl, sc⟩ ⟨rfl, hx3⟩
              have sall := say.trans (b14.trans sc)
              refine ⟨_, rfl, _, rfl, _, rfl, wv, x3, way, "tags", ivD dv, rfl, hway, .tags (hWT.same sall), fun p1 He se ne te => ?_⟩
              refine ⟨_, rfl, by show 2 ≤ sizeLine; decide, fun p2 hp2 => ?_⟩
              have sf := same_new (o := .lst [V.str (Str.ofString "tags"), dv]) hp2
              refine ne_told (te.same sf) ⟨dv, upd_same, dp_same (sall.trans (se.trans sf)) _ _ hdv⟩ (ivD_told (by decide +kernel)) ?_
              refine ⟨_, rfl, iteF ?_⟩
              exact ⟨_, rfl, sc.trans (se.trans sf)⟩
            · rintro σ3 Hc ⟨v17, rfl, sc⟩
              exact ⟨_, _, rfl, sa.trans (b14.trans sc)⟩
          · rintro σ2 Ha ⟨v16, v17, rfl, sa⟩
            exact ⟨_, _, _, _, rfl, sy.trans sa⟩
      rintro σ H25 ⟨v14, v15, v16, v17, rfl, s25⟩
      exact ⟨_, _, _, _, _, _, _, _, _, _, _, _, _, _, _, _, _, rfl, e24.trans s25⟩
    · rintro σ H2 ⟨v1, v2, v3, v4, v5, v6, v7, v8, v9, v10, v11, v12, v13, v14, v15, v16, v17, rfl, e1⟩
      exact k H2
end
end Law
end

section
set_option Elab.async false
set_option linter.all false
set_option maxRecDepth 100000
set_option maxHeartbeats 0
namespace Law
open PySem PySem.Spec PyProof.Rows L2 LamX QB QM
def dds : List He.DefD := [⟨("is_list", none), "is_list", "is_list", defArgs s_is_list, defBody s_is_list, defScope s_is_list, [], []⟩,
  ⟨("is_name", none), "is_name", "is_name", defArgs s_is_name, defBody s_is_name, defScope s_is_name, [], []⟩,
  ⟨("is_tag", none), "is_tag", "is_tag", defArgs s_is_tag, defBody s_is_tag, defScope s_is_tag, [], []⟩,
  ⟨("check_tags", none), "check_tags", "check_tags", defArgs s_check_tags, defBody s_check_tags, defScope s_check_tags, [], []⟩,
  ⟨("check_word", none), "check_word", "check_word", defArgs s_check_word, defBody s_check_word, defScope s_check_word, [], []⟩,
  ⟨("written", none), "written", "written", defArgs s_written, defBody s_written, defScope s_written, [], []⟩,
  ⟨("read_word", none), "read_word", "read_word", defArgs s_read_word, defBody s_read_word, defScope s_read_word, [], []⟩,
  ⟨("subject_text", none), "subject_text", "subject_text", defArgs s_subject_text, defBody s_subject_text, defScope s_subject_text, [], []⟩,
  ⟨("read_subject", none), "read_subject", "read_subject", defArgs s_read_subject, defBody s_read_subject, defScope s_read_subject, [], []⟩,
  ⟨("_law_mixed", none), "_law_mixed", "_law_mixed", defArgs s__law_mixed, defBody s__law_mixed, defScope s__law_mixed, [], []⟩,
  ⟨("_law_pile", none), "_law_pile", "_law_pile", defArgs s__law_pile, defBody s__law_pile, defScope s__law_pile, [], []⟩,
  ⟨("_law_take", none), "_law_take", "_law_take", defArgs s__law_take, defBody s__law_take, defScope s__law_take, [], []⟩,
  ⟨("_law_order", none), "_law_order", "_law_order", defArgs s__law_order, defBody s__law_order, defScope s__law_order, [], []⟩,
  ⟨("_law_tags", none), "_law_tags", "_law_tags", defArgs s__law_tags, defBody s__law_tags, defScope s__law_tags, [], []⟩,
  ⟨("_law_word", none), "_law_word", "_law_word", defArgs s__law_word, defBody s__law_word, defScope s__law_word, [], []⟩,
  ⟨("_law_standings", none), "_law_standings", "_law_standings", defArgs s__law_standings, defBody s__law_standings, defScope s__law_standings, [], []⟩,
  ⟨("_law_eaten", none), "_law_eaten", "_law_eaten", defArgs s__law_eaten, defBody s__law_eaten, defScope s__law_eaten, [], []⟩,
  ⟨("_law_row_done", none), "_law_row_done", "_law_row_done", defArgs s__law_row_done, defBody s__law_row_done, defScope s__law_row_done, [], []⟩,
  ⟨("_law_told", none), "_law_told", "_law_told", defArgs s__law_told, defBody s__law_told, defScope s__law_told, [], []⟩,
  ⟨("_law_written", none), "_law_written", "_law_written", defArgs s__law_written, defBody s__law_written, defScope s__law_written, [], []⟩,
  ⟨("_law_subject_due", none), "_law_subject_due", "_law_subject_due", defArgs s__law_subject_due, defBody s__law_subject_due, defScope s__law_subject_due, [], []⟩,
  ⟨("_law_text_due", none), "_law_text_due", "_law_text_due", defArgs s__law_text_due, defBody s__law_text_due, defScope s__law_text_due, [], []⟩,
  ⟨("_law_bent", none), "_law_bent", "_law_bent", defArgs s__law_bent, defBody s__law_bent, defScope s__law_bent, [], []⟩,
  ⟨("law", none), "law", "law", defArgs s_law, defBody s_law, defScope s_law, [], []⟩,
  ⟨("InvalidTags", some "__init__"), "__init__", "InvalidTags.__init__", defArgs s_InvalidTags___init__, defBody s_InvalidTags___init__, defScope s_InvalidTags___init__, [], []⟩,
  ⟨("InvalidSubject", some "__init__"), "__init__", "InvalidSubject.__init__", defArgs s_InvalidSubject___init__, defBody s_InvalidSubject___init__, defScope s_InvalidSubject___init__, [], []⟩,
  ⟨("InvalidEater", some "__init__"), "__init__", "InvalidEater.__init__", defArgs s_InvalidEater___init__, defBody s_InvalidEater___init__, defScope s_InvalidEater___init__, [], []⟩,
  ⟨("InvalidText", some "__init__"), "__init__", "InvalidText.__init__", defArgs s_InvalidText___init__, defBody s_InvalidText___init__, defScope s_InvalidText___init__, [], []⟩]
def fas : List He.Fa := [.free "ValueError", .free "abs", .free "all", .free "enumerate", .free "int", .free "isinstance", .free "len", .free "list", .free "range", .free "str", .free "tuple", .str "LETTERS" "abcdefghijklmnopqrstuvwxyz", .int "MOST_LETTERS" 8, .int "MOST_TAGS" 6, .int "LONGEST_SUBJECT" 200, .str "NO_TAGS" "-", .glo "is_list", .glo "is_name", .glo "is_tag", .glo "check_tags", .glo "check_word", .glo "written", .glo "read_word", .glo "subject_text", .glo "read_subject", .glo "_law_mixed", .glo "_law_pile", .glo "_law_take", .glo "_law_order", .glo "_law_tags", .glo "_law_word", .glo "_law_standings", .glo "_law_eaten", .glo "_law_row_done", .glo "_law_told", .glo "_law_written", .glo "_law_subject_due", .glo "_law_text_due", .glo "_law_bent", .glo "law", .glo "TagError", .glo "InvalidTags", .glo "InvalidSubject", .glo "InvalidEater", .glo "InvalidText"]
def exB (K : PySem.W.Frag) : Bool := QX.excTB K (He.ga K "InvalidTags") (He.fAd K ("InvalidTags", some "__init__")) "index" && (QX.excTB K (He.ga K "InvalidSubject") (He.fAd K ("InvalidSubject", some "__init__")) "index" && (QX.excTB K (He.ga K "InvalidEater") (He.fAd K ("InvalidEater", some "__init__")) "index" && (QX.excTB K (He.ga K "InvalidText") (He.fAd K ("InvalidText", some "__init__")) "line" && (QX.exmB K (He.ga K "InvalidTags") (He.ga K "TagError") && (QX.isTB K (He.ga K "InvalidTags") "ValueError" true && (QX.isB K (He.ga K "InvalidTags") (He.ga K "TagError") true && (QX.isB K (He.ga K "InvalidTags") (He.ga K "InvalidTags") true && (QX.isB K (He.ga K "InvalidTags") (He.ga K "InvalidSubject") false && (QX.isB K (He.ga K "InvalidTags") (He.ga K "InvalidEater") false && (QX.isB K (He.ga K "InvalidTags") (He.ga K "InvalidText") false && (QX.exmB K (He.ga K "InvalidSubject") (He.ga K "TagError") && (QX.isTB K (He.ga K "InvalidSubject") "ValueError" true && (QX.isB K (He.ga K "InvalidSubject") (He.ga K "TagError") true && (QX.isB K (He.ga K "InvalidSubject") (He.ga K "InvalidTags") false && (QX.isB K (He.ga K "InvalidSubject") (He.ga K "InvalidSubject") true && (QX.isB K (He.ga K "InvalidSubject") (He.ga K "InvalidEater") false && (QX.isB K (He.ga K "InvalidSubject") (He.ga K "InvalidText") false && (QX.exmB K (He.ga K "InvalidEater") (He.ga K "TagError") && (QX.isTB K (He.ga K "InvalidEater") "ValueError" true && (QX.isB K (He.ga K "InvalidEater") (He.ga K "TagError") true && (QX.isB K (He.ga K "InvalidEater") (He.ga K "InvalidTags") false && (QX.isB K (He.ga K "InvalidEater") (He.ga K "InvalidSubject") false && (QX.isB K (He.ga K "InvalidEater") (He.ga K "InvalidEater") true && (QX.isB K (He.ga K "InvalidEater") (He.ga K "InvalidText") false && (QX.exmB K (He.ga K "InvalidText") (He.ga K "TagError") && (QX.isTB K (He.ga K "InvalidText") "ValueError" true && (QX.isB K (He.ga K "InvalidText") (He.ga K "TagError") true && (QX.isB K (He.ga K "InvalidText") (He.ga K "InvalidTags") false && (QX.isB K (He.ga K "InvalidText") (He.ga K "InvalidSubject") false && (QX.isB K (He.ga K "InvalidText") (He.ga K "InvalidEater") false && (QX.isB K (He.ga K "InvalidText") (He.ga K "InvalidText") true)))))))))))))))))))))))))))))))
theorem tx_mk {K : PySem.W.Frag} {h : Heap} {mg : Str → Option Value} (X0 : K.In h) (G : h.Ns mainGlobals mg) (c : He.SaysD fas dds K) (ce : exB K = true) : ∃ X : TX K mg, X.d_law.a = He.ga K "law" := by
  obtain ⟨fd0, F0⟩ := c.def_ 0 (d := ⟨("is_list", none), "is_list", "is_list", defArgs s_is_list, defBody s_is_list, defScope s_is_list, [], []⟩) rfl
  have F0 : L2.Fun K "is_list" "is_list" s_is_list (He.fAd K ("is_list", none)) fd0 := QE.funD_fun F0
  obtain ⟨fd1, F1⟩ := c.def_ 1 (d := ⟨("is_name", none), "is_name", "is_name", defArgs s_is_name, defBody s_is_name, defScope s_is_name, [], []⟩) rfl
  have F1 : L2.Fun K "is_name" "is_name" s_is_name (He.fAd K ("is_name", none)) fd1 := QE.funD_fun F1
  obtain ⟨fd2, F2⟩ := c.def_ 2 (d := ⟨("is_tag", none), "is_tag", "is_tag", defArgs s_is_tag, defBody s_is_tag, defScope s_is_tag, [], []⟩) rfl
  have F2 : L2.Fun K "is_tag" "is_tag" s_is_tag (He.fAd K ("is_tag", none)) fd2 := QE.funD_fun F2
  obtain ⟨fd3, F3⟩ := c.def_ 3 (d := ⟨("check_tags", none), "check_tags", "check_tags", defArgs s_check_tags, defBody s_check_tags, defScope s_check_tags, [], []⟩) rfl
  have F3 : L2.Fun K "check_tags" "check_tags" s_check_tags (He.fAd K ("check_tags", none)) fd3 := QE.funD_fun F3
  obtain ⟨fd4, F4⟩ := c.def_ 4 (d := ⟨("check_word", none), "check_word", "check_word", defArgs s_check_word, defBody s_check_word, defScope s_check_word, [], []⟩) rfl
  have F4 : L2.Fun K "check_word" "check_word" s_check_word (He.fAd K ("check_word", none)) fd4 := QE.funD_fun F4
  obtain ⟨fd5, F5⟩ := c.def_ 5 (d := ⟨("written", none), "written", "written", defArgs s_written, defBody s_written, defScope s_written, [], []⟩) rfl
  have F5 : L2.Fun K "written" "written" s_written (He.fAd K ("written", none)) fd5 := QE.funD_fun F5
  obtain ⟨fd6, F6⟩ := c.def_ 6 (d := ⟨("read_word", none), "read_word", "read_word", defArgs s_read_word, defBody s_read_word, defScope s_read_word, [], []⟩) rfl
  have F6 : L2.Fun K "read_word" "read_word" s_read_word (He.fAd K ("read_word", none)) fd6 := QE.funD_fun F6
  obtain ⟨fd7, F7⟩ := c.def_ 7 (d := ⟨("subject_text", none), "subject_text", "subject_text", defArgs s_subject_text, defBody s_subject_text, defScope s_subject_text, [], []⟩) rfl
  have F7 : L2.Fun K "subject_text" "subject_text" s_subject_text (He.fAd K ("subject_text", none)) fd7 := QE.funD_fun F7
  obtain ⟨fd8, F8⟩ := c.def_ 8 (d := ⟨("read_subject", none), "read_subject", "read_subject", defArgs s_read_subject, defBody s_read_subject, defScope s_read_subject, [], []⟩) rfl
  have F8 : L2.Fun K "read_subject" "read_subject" s_read_subject (He.fAd K ("read_subject", none)) fd8 := QE.funD_fun F8
  obtain ⟨fd9, F9⟩ := c.def_ 9 (d := ⟨("_law_mixed", none), "_law_mixed", "_law_mixed", defArgs s__law_mixed, defBody s__law_mixed, defScope s__law_mixed, [], []⟩) rfl
  have F9 : L2.Fun K "_law_mixed" "_law_mixed" s__law_mixed (He.fAd K ("_law_mixed", none)) fd9 := QE.funD_fun F9
  obtain ⟨fd10, F10⟩ := c.def_ 10 (d := ⟨("_law_pile", none), "_law_pile", "_law_pile", defArgs s__law_pile, defBody s__law_pile, defScope s__law_pile, [], []⟩) rfl
  have F10 : L2.Fun K "_law_pile" "_law_pile" s__law_pile (He.fAd K ("_law_pile", none)) fd10 := QE.funD_fun F10
  obtain ⟨fd11, F11⟩ := c.def_ 11 (d := ⟨("_law_take", none), "_law_take", "_law_take", defArgs s__law_take, defBody s__law_take, defScope s__law_take, [], []⟩) rfl
  have F11 : L2.Fun K "_law_take" "_law_take" s__law_take (He.fAd K ("_law_take", none)) fd11 := QE.funD_fun F11
  obtain ⟨fd12, F12⟩ := c.def_ 12 (d := ⟨("_law_order", none), "_law_order", "_law_order", defArgs s__law_order, defBody s__law_order, defScope s__law_order, [], []⟩) rfl
  have F12 : L2.Fun K "_law_order" "_law_order" s__law_order (He.fAd K ("_law_order", none)) fd12 := QE.funD_fun F12
  obtain ⟨fd13, F13⟩ := c.def_ 13 (d := ⟨("_law_tags", none), "_law_tags", "_law_tags", defArgs s__law_tags, defBody s__law_tags, defScope s__law_tags, [], []⟩) rfl
  have F13 : L2.Fun K "_law_tags" "_law_tags" s__law_tags (He.fAd K ("_law_tags", none)) fd13 := QE.funD_fun F13
  obtain ⟨fd14, F14⟩ := c.def_ 14 (d := ⟨("_law_word", none), "_law_word", "_law_word", defArgs s__law_word, defBody s__law_word, defScope s__law_word, [], []⟩) rfl
  have F14 : L2.Fun K "_law_word" "_law_word" s__law_word (He.fAd K ("_law_word", none)) fd14 := QE.funD_fun F14
  obtain ⟨fd15, F15⟩ := c.def_ 15 (d := ⟨("_law_standings", none), "_law_standings", "_law_standings", defArgs s__law_standings, defBody s__law_standings, defScope s__law_standings, [], []⟩) rfl
  have F15 : L2.Fun K "_law_standings" "_law_standings" s__law_standings (He.fAd K ("_law_standings", none)) fd15 := QE.funD_fun F15
  obtain ⟨fd16, F16⟩ := c.def_ 16 (d := ⟨("_law_eaten", none), "_law_eaten", "_law_eaten", defArgs s__law_eaten, defBody s__law_eaten, defScope s__law_eaten, [], []⟩) rfl
  have F16 : L2.Fun K "_law_eaten" "_law_eaten" s__law_eaten (He.fAd K ("_law_eaten", none)) fd16 := QE.funD_fun F16
  obtain ⟨fd17, F17⟩ := c.def_ 17 (d := ⟨("_law_row_done", none), "_law_row_done", "_law_row_done", defArgs s__law_row_done, defBody s__law_row_done, defScope s__law_row_done, [], []⟩) rfl
  have F17 : L2.Fun K "_law_row_done" "_law_row_done" s__law_row_done (He.fAd K ("_law_row_done", none)) fd17 := QE.funD_fun F17
  obtain ⟨fd18, F18⟩ := c.def_ 18 (d := ⟨("_law_told", none), "_law_told", "_law_told", defArgs s__law_told, defBody s__law_told, defScope s__law_told, [], []⟩) rfl
  have F18 : L2.Fun K "_law_told" "_law_told" s__law_told (He.fAd K ("_law_told", none)) fd18 := QE.funD_fun F18
  obtain ⟨fd19, F19⟩ := c.def_ 19 (d := ⟨("_law_written", none), "_law_written", "_law_written", defArgs s__law_written, defBody s__law_written, defScope s__law_written, [], []⟩) rfl
  have F19 : L2.Fun K "_law_written" "_law_written" s__law_written (He.fAd K ("_law_written", none)) fd19 := QE.funD_fun F19
  obtain ⟨fd20, F20⟩ := c.def_ 20 (d := ⟨("_law_subject_due", none), "_law_subject_due", "_law_subject_due", defArgs s__law_subject_due, defBody s__law_subject_due, defScope s__law_subject_due, [], []⟩) rfl
  have F20 : L2.Fun K "_law_subject_due" "_law_subject_due" s__law_subject_due (He.fAd K ("_law_subject_due", none)) fd20 := QE.funD_fun F20
  obtain ⟨fd21, F21⟩ := c.def_ 21 (d := ⟨("_law_text_due", none), "_law_text_due", "_law_text_due", defArgs s__law_text_due, defBody s__law_text_due, defScope s__law_text_due, [], []⟩) rfl
  have F21 : L2.Fun K "_law_text_due" "_law_text_due" s__law_text_due (He.fAd K ("_law_text_due", none)) fd21 := QE.funD_fun F21
  obtain ⟨fd22, F22⟩ := c.def_ 22 (d := ⟨("_law_bent", none), "_law_bent", "_law_bent", defArgs s__law_bent, defBody s__law_bent, defScope s__law_bent, [], []⟩) rfl
  have F22 : L2.Fun K "_law_bent" "_law_bent" s__law_bent (He.fAd K ("_law_bent", none)) fd22 := QE.funD_fun F22
  obtain ⟨fd23, F23⟩ := c.def_ 23 (d := ⟨("law", none), "law", "law", defArgs s_law, defBody s_law, defScope s_law, [], []⟩) rfl
  have F23 : L2.Fun K "law" "law" s_law (He.fAd K ("law", none)) fd23 := QE.funD_fun F23
  obtain ⟨fd24, F24⟩ := c.def_ 24 (d := ⟨("InvalidTags", some "__init__"), "__init__", "InvalidTags.__init__", defArgs s_InvalidTags___init__, defBody s_InvalidTags___init__, defScope s_InvalidTags___init__, [], []⟩) rfl
  have F24 : L2.Fun K "__init__" "InvalidTags.__init__" s_InvalidTags___init__ (He.fAd K ("InvalidTags", some "__init__")) fd24 := QE.funD_fun F24
  obtain ⟨fd25, F25⟩ := c.def_ 25 (d := ⟨("InvalidSubject", some "__init__"), "__init__", "InvalidSubject.__init__", defArgs s_InvalidSubject___init__, defBody s_InvalidSubject___init__, defScope s_InvalidSubject___init__, [], []⟩) rfl
  have F25 : L2.Fun K "__init__" "InvalidSubject.__init__" s_InvalidSubject___init__ (He.fAd K ("InvalidSubject", some "__init__")) fd25 := QE.funD_fun F25
  obtain ⟨fd26, F26⟩ := c.def_ 26 (d := ⟨("InvalidEater", some "__init__"), "__init__", "InvalidEater.__init__", defArgs s_InvalidEater___init__, defBody s_InvalidEater___init__, defScope s_InvalidEater___init__, [], []⟩) rfl
  have F26 : L2.Fun K "__init__" "InvalidEater.__init__" s_InvalidEater___init__ (He.fAd K ("InvalidEater", some "__init__")) fd26 := QE.funD_fun F26
  obtain ⟨fd27, F27⟩ := c.def_ 27 (d := ⟨("InvalidText", some "__init__"), "__init__", "InvalidText.__init__", defArgs s_InvalidText___init__, defBody s_InvalidText___init__, defScope s_InvalidText___init__, [], []⟩) rfl
  have F27 : L2.Fun K "__init__" "InvalidText.__init__" s_InvalidText___init__ (He.fAd K ("InvalidText", some "__init__")) fd27 := QE.funD_fun F27
  obtain ⟨b_x_InvalidTags, ce⟩ := He.ba ce
  obtain ⟨b_x_InvalidSubject, ce⟩ := He.ba ce
  obtain ⟨b_x_InvalidEater, ce⟩ := He.ba ce
  obtain ⟨b_x_InvalidText, ce⟩ := He.ba ce
  obtain ⟨b_e_InvalidTags, ce⟩ := He.ba ce
  obtain ⟨b_v_InvalidTags, ce⟩ := He.ba ce
  obtain ⟨b_i_InvalidTags_TagError, ce⟩ := He.ba ce
  obtain ⟨b_i_InvalidTags_InvalidTags, ce⟩ := He.ba ce
  obtain ⟨b_i_InvalidTags_InvalidSubject, ce⟩ := He.ba ce
  obtain ⟨b_i_InvalidTags_InvalidEater, ce⟩ := He.ba ce
  obtain ⟨b_i_InvalidTags_InvalidText, ce⟩ := He.ba ce
  obtain ⟨b_e_InvalidSubject, ce⟩ := He.ba ce
  obtain ⟨b_v_InvalidSubject, ce⟩ := He.ba ce
  obtain ⟨b_i_InvalidSubject_TagError, ce⟩ := He.ba ce
  obtain ⟨b_i_InvalidSubject_InvalidTags, ce⟩ := He.ba ce
  obtain ⟨b_i_InvalidSubject_InvalidSubject, ce⟩ := He.ba ce
  obtain ⟨b_i_InvalidSubject_InvalidEater, ce⟩ := He.ba ce
  obtain ⟨b_i_InvalidSubject_InvalidText, ce⟩ := He.ba ce
  obtain ⟨b_e_InvalidEater, ce⟩ := He.ba ce
  obtain ⟨b_v_InvalidEater, ce⟩ := He.ba ce
  obtain ⟨b_i_InvalidEater_TagError, ce⟩ := He.ba ce
  obtain ⟨b_i_InvalidEater_InvalidTags, ce⟩ := He.ba ce
  obtain ⟨b_i_InvalidEater_InvalidSubject, ce⟩ := He.ba ce
  obtain ⟨b_i_InvalidEater_InvalidEater, ce⟩ := He.ba ce
  obtain ⟨b_i_InvalidEater_InvalidText, ce⟩ := He.ba ce
  obtain ⟨b_e_InvalidText, ce⟩ := He.ba ce
  obtain ⟨b_v_InvalidText, ce⟩ := He.ba ce
  obtain ⟨b_i_InvalidText_TagError, ce⟩ := He.ba ce
  obtain ⟨b_i_InvalidText_InvalidTags, ce⟩ := He.ba ce
  obtain ⟨b_i_InvalidText_InvalidSubject, ce⟩ := He.ba ce
  obtain ⟨b_i_InvalidText_InvalidEater, ce⟩ := He.ba ce
  have b_i_InvalidText_InvalidText := ce
  exact ⟨{
    n_ValueError := He.free_ok X0 G (c.fact 0 (f := .free "ValueError") rfl),
    n_abs := He.free_ok X0 G (c.fact 1 (f := .free "abs") rfl),
    n_all := He.free_ok X0 G (c.fact 2 (f := .free "all") rfl),
    n_enumerate := He.free_ok X0 G (c.fact 3 (f := .free "enumerate") rfl),
    n_int := He.free_ok X0 G (c.fact 4 (f := .free "int") rfl),
    n_isinstance := He.free_ok X0 G (c.fact 5 (f := .free "isinstance") rfl),
    n_len := He.free_ok X0 G (c.fact 6 (f := .free "len") rfl),
    n_list := He.free_ok X0 G (c.fact 7 (f := .free "list") rfl),
    n_range := He.free_ok X0 G (c.fact 8 (f := .free "range") rfl),
    n_str := He.free_ok X0 G (c.fact 9 (f := .free "str") rfl),
    n_tuple := He.free_ok X0 G (c.fact 10 (f := .free "tuple") rfl),
    c_LETTERS := (let ⟨t, h⟩ := He.str_ok X0 G (c.fact 11 (f := .str "LETTERS" "abcdefghijklmnopqrstuvwxyz") rfl); ⟨_, h, t, rfl⟩),
    c_MOST_LETTERS := (let ⟨t, h⟩ := He.int_ok X0 G (c.fact 12 (f := .int "MOST_LETTERS" 8) rfl); ⟨_, h, t, rfl⟩),
    c_MOST_TAGS := (let ⟨t, h⟩ := He.int_ok X0 G (c.fact 13 (f := .int "MOST_TAGS" 6) rfl); ⟨_, h, t, rfl⟩),
    c_LONGEST_SUBJECT := (let ⟨t, h⟩ := He.int_ok X0 G (c.fact 14 (f := .int "LONGEST_SUBJECT" 200) rfl); ⟨_, h, t, rfl⟩),
    c_NO_TAGS := (let ⟨t, h⟩ := He.str_ok X0 G (c.fact 15 (f := .str "NO_TAGS" "-") rfl); ⟨_, h, t, rfl⟩),
    d_is_list := { a := He.fAd K ("is_list", none), fd := fd0, F := F0, b := F0.binds fun _ _ _ _ _ _ us hl => match us, hl with | [_, _, _], _ => rfl, mg := He.glo_ok X0 G (c.fact 16 (f := .glo "is_list") rfl) },
    d_is_name := { a := He.fAd K ("is_name", none), fd := fd1, F := F1, b := F1.binds fun _ _ _ _ _ _ us hl => match us, hl with | [_], _ => rfl, mg := He.glo_ok X0 G (c.fact 17 (f := .glo "is_name") rfl) },
    d_is_tag := { a := He.fAd K ("is_tag", none), fd := fd2, F := F2, b := F2.binds fun _ _ _ _ _ _ us hl => match us, hl with | [_, _], _ => rfl, mg := He.glo_ok X0 G (c.fact 18 (f := .glo "is_tag") rfl) },
    d_check_tags := { a := He.fAd K ("check_tags", none), fd := fd3, F := F3, b := F3.binds fun _ _ _ _ _ _ us hl => match us, hl with | [_], _ => rfl, mg := He.glo_ok X0 G (c.fact 19 (f := .glo "check_tags") rfl) },
    d_check_word := { a := He.fAd K ("check_word", none), fd := fd4, F := F4, b := F4.binds fun _ _ _ _ _ _ us hl => match us, hl with | [_, _, _], _ => rfl, mg := He.glo_ok X0 G (c.fact 20 (f := .glo "check_word") rfl) },
    d_written := { a := He.fAd K ("written", none), fd := fd5, F := F5, b := F5.binds fun _ _ _ _ _ _ us hl => match us, hl with | [_], _ => rfl, mg := He.glo_ok X0 G (c.fact 21 (f := .glo "written") rfl) },
    d_read_word := { a := He.fAd K ("read_word", none), fd := fd6, F := F6, b := F6.binds fun _ _ _ _ _ _ us hl => match us, hl with | [_, _, _], _ => rfl, mg := He.glo_ok X0 G (c.fact 22 (f := .glo "read_word") rfl) },
    d_subject_text := { a := He.fAd K ("subject_text", none), fd := fd7, F := F7, b := F7.binds fun _ _ _ _ _ _ us hl => match us, hl with | [_, _], _ => rfl, mg := He.glo_ok X0 G (c.fact 23 (f := .glo "subject_text") rfl) },
    d_read_subject := { a := He.fAd K ("read_subject", none), fd := fd8, F := F8, b := F8.binds fun _ _ _ _ _ _ us hl => match us, hl with | [_, _], _ => rfl, mg := He.glo_ok X0 G (c.fact 24 (f := .glo "read_subject") rfl) },
    d__law_mixed := { a := He.fAd K ("_law_mixed", none), fd := fd9, F := F9, b := F9.binds fun _ _ _ _ _ _ us hl => match us, hl with | [_, _], _ => rfl, mg := He.glo_ok X0 G (c.fact 25 (f := .glo "_law_mixed") rfl) },
    d__law_pile := { a := He.fAd K ("_law_pile", none), fd := fd10, F := F10, b := F10.binds fun _ _ _ _ _ _ us hl => match us, hl with | [_, _], _ => rfl, mg := He.glo_ok X0 G (c.fact 26 (f := .glo "_law_pile") rfl) },
    d__law_take := { a := He.fAd K ("_law_take", none), fd := fd11, F := F11, b := F11.binds fun _ _ _ _ _ _ us hl => match us, hl with | [_, _], _ => rfl, mg := He.glo_ok X0 G (c.fact 27 (f := .glo "_law_take") rfl) },
    d__law_order := { a := He.fAd K ("_law_order", none), fd := fd12, F := F12, b := F12.binds fun _ _ _ _ _ _ us hl => match us, hl with | [_, _], _ => rfl, mg := He.glo_ok X0 G (c.fact 28 (f := .glo "_law_order") rfl) },
    d__law_tags := { a := He.fAd K ("_law_tags", none), fd := fd13, F := F13, b := F13.binds fun _ _ _ _ _ _ us hl => match us, hl with | [_, _], _ => rfl, mg := He.glo_ok X0 G (c.fact 29 (f := .glo "_law_tags") rfl) },
    d__law_word := { a := He.fAd K ("_law_word", none), fd := fd14, F := F14, b := F14.binds fun _ _ _ _ _ _ us hl => match us, hl with | [_, _, _], _ => rfl, mg := He.glo_ok X0 G (c.fact 30 (f := .glo "_law_word") rfl) },
    d__law_standings := { a := He.fAd K ("_law_standings", none), fd := fd15, F := F15, b := F15.binds fun _ _ _ _ _ _ us hl => match us, hl with | [_, _, _, _], _ => rfl, mg := He.glo_ok X0 G (c.fact 31 (f := .glo "_law_standings") rfl) },
    d__law_eaten := { a := He.fAd K ("_law_eaten", none), fd := fd16, F := F16, b := F16.binds fun _ _ _ _ _ _ us hl => match us, hl with | [_, _, _], _ => rfl, mg := He.glo_ok X0 G (c.fact 32 (f := .glo "_law_eaten") rfl) },
    d__law_row_done := { a := He.fAd K ("_law_row_done", none), fd := fd17, F := F17, b := F17.binds fun _ _ _ _ _ _ us hl => match us, hl with | [_, _, _, _], _ => rfl, mg := He.glo_ok X0 G (c.fact 33 (f := .glo "_law_row_done") rfl) },
    d__law_told := { a := He.fAd K ("_law_told", none), fd := fd18, F := F18, b := F18.binds fun _ _ _ _ _ _ us hl => match us, hl with | [_, _, _], _ => rfl, mg := He.glo_ok X0 G (c.fact 34 (f := .glo "_law_told") rfl) },
    d__law_written := { a := He.fAd K ("_law_written", none), fd := fd19, F := F19, b := F19.binds fun _ _ _ _ _ _ us hl => match us, hl with | [_], _ => rfl, mg := He.glo_ok X0 G (c.fact 35 (f := .glo "_law_written") rfl) },
    d__law_subject_due := { a := He.fAd K ("_law_subject_due", none), fd := fd20, F := F20, b := F20.binds fun _ _ _ _ _ _ us hl => match us, hl with | [_, _], _ => rfl, mg := He.glo_ok X0 G (c.fact 36 (f := .glo "_law_subject_due") rfl) },
    d__law_text_due := { a := He.fAd K ("_law_text_due", none), fd := fd21, F := F21, b := F21.binds fun _ _ _ _ _ _ us hl => match us, hl with | [_, _], _ => rfl, mg := He.glo_ok X0 G (c.fact 37 (f := .glo "_law_text_due") rfl) },
    d__law_bent := { a := He.fAd K ("_law_bent", none), fd := fd22, F := F22, b := F22.binds fun _ _ _ _ _ _ us hl => match us, hl with | [_, _], _ => rfl, mg := He.glo_ok X0 G (c.fact 38 (f := .glo "_law_bent") rfl) },
    d_law := { a := He.fAd K ("law", none), fd := fd23, F := F23, b := F23.binds fun _ _ _ _ _ _ us hl => match us, hl with | [_], _ => rfl, mg := He.glo_ok X0 G (c.fact 39 (f := .glo "law") rfl) },
    e_TagError := He.ga K "TagError",
    me_TagError := He.glo_ok X0 G (c.fact 40 (f := .glo "TagError") rfl),
    e_InvalidTags := He.ga K "InvalidTags",
    me_InvalidTags := He.glo_ok X0 G (c.fact 41 (f := .glo "InvalidTags") rfl),
    d_InvalidTags___init__ := { a := He.fAd K ("InvalidTags", some "__init__"), fd := fd24, F := F24, b := F24.binds fun _ _ _ _ _ _ us hl => match us, hl with | [_, _], _ => rfl },
    xt_InvalidTags := QX.excTB_ok b_x_InvalidTags,
    e_InvalidSubject := He.ga K "InvalidSubject",
    me_InvalidSubject := He.glo_ok X0 G (c.fact 42 (f := .glo "InvalidSubject") rfl),
    d_InvalidSubject___init__ := { a := He.fAd K ("InvalidSubject", some "__init__"), fd := fd25, F := F25, b := F25.binds fun _ _ _ _ _ _ us hl => match us, hl with | [_, _], _ => rfl },
    xt_InvalidSubject := QX.excTB_ok b_x_InvalidSubject,
    e_InvalidEater := He.ga K "InvalidEater",
    me_InvalidEater := He.glo_ok X0 G (c.fact 43 (f := .glo "InvalidEater") rfl),
    d_InvalidEater___init__ := { a := He.fAd K ("InvalidEater", some "__init__"), fd := fd26, F := F26, b := F26.binds fun _ _ _ _ _ _ us hl => match us, hl with | [_, _], _ => rfl },
    xt_InvalidEater := QX.excTB_ok b_x_InvalidEater,
    e_InvalidText := He.ga K "InvalidText",
    me_InvalidText := He.glo_ok X0 G (c.fact 44 (f := .glo "InvalidText") rfl),
    d_InvalidText___init__ := { a := He.fAd K ("InvalidText", some "__init__"), fd := fd27, F := F27, b := F27.binds fun _ _ _ _ _ _ us hl => match us, hl with | [_, _], _ => rfl },
    xt_InvalidText := QX.excTB_ok b_x_InvalidText,
    ex_InvalidTags := of_decide_eq_true b_e_InvalidTags,
    kv_InvalidTags := of_decide_eq_true b_v_InvalidTags,
    ki_InvalidTags_TagError := of_decide_eq_true b_i_InvalidTags_TagError,
    ki_InvalidTags_InvalidTags := of_decide_eq_true b_i_InvalidTags_InvalidTags,
    ki_InvalidTags_InvalidSubject := of_decide_eq_true b_i_InvalidTags_InvalidSubject,
    ki_InvalidTags_InvalidEater := of_decide_eq_true b_i_InvalidTags_InvalidEater,
    ki_InvalidTags_InvalidText := of_decide_eq_true b_i_InvalidTags_InvalidText,
    ex_InvalidSubject := of_decide_eq_true b_e_InvalidSubject,
    kv_InvalidSubject := of_decide_eq_true b_v_InvalidSubject,
    ki_InvalidSubject_TagError := of_decide_eq_true b_i_InvalidSubject_TagError,
    ki_InvalidSubject_InvalidTags := of_decide_eq_true b_i_InvalidSubject_InvalidTags,
    ki_InvalidSubject_InvalidSubject := of_decide_eq_true b_i_InvalidSubject_InvalidSubject,
    ki_InvalidSubject_InvalidEater := of_decide_eq_true b_i_InvalidSubject_InvalidEater,
    ki_InvalidSubject_InvalidText := of_decide_eq_true b_i_InvalidSubject_InvalidText,
    ex_InvalidEater := of_decide_eq_true b_e_InvalidEater,
    kv_InvalidEater := of_decide_eq_true b_v_InvalidEater,
    ki_InvalidEater_TagError := of_decide_eq_true b_i_InvalidEater_TagError,
    ki_InvalidEater_InvalidTags := of_decide_eq_true b_i_InvalidEater_InvalidTags,
    ki_InvalidEater_InvalidSubject := of_decide_eq_true b_i_InvalidEater_InvalidSubject,
    ki_InvalidEater_InvalidEater := of_decide_eq_true b_i_InvalidEater_InvalidEater,
    ki_InvalidEater_InvalidText := of_decide_eq_true b_i_InvalidEater_InvalidText,
    ex_InvalidText := of_decide_eq_true b_e_InvalidText,
    kv_InvalidText := of_decide_eq_true b_v_InvalidText,
    ki_InvalidText_TagError := of_decide_eq_true b_i_InvalidText_TagError,
    ki_InvalidText_InvalidTags := of_decide_eq_true b_i_InvalidText_InvalidTags,
    ki_InvalidText_InvalidSubject := of_decide_eq_true b_i_InvalidText_InvalidSubject,
    ki_InvalidText_InvalidEater := of_decide_eq_true b_i_InvalidText_InvalidEater,
    ki_InvalidText_InvalidText := of_decide_eq_true b_i_InvalidText_InvalidText }, rfl⟩
end Law
end

section
set_option Elab.async false
set_option linter.all false
set_option maxRecDepth 100000
set_option maxHeartbeats 0
namespace Law
open PySem PySem.Spec PyProof.Rows L2 LamX QB QM
abbrev R : PySem.W.OpenRow := PySem.W.OpenLaw.row PySem.Challenge.rw_subjecttags_k60_subjects_as_text
def tfs : List He.Defn := []
abbrev hk : PySem.W.Hook := He.hookX 5 fas dds [] tfs exB
def ob (s : PySem.W.SharedT) : He.AlX := He.obsX 5 fas dds [] tfs exB (HandSHeadRun.getT s)
theorem ob_eq (s : PySem.W.SharedT) : ob s = hk.obs s.abs := He.obsX_eq (HandSHeadRun.getT_eq s)
def names : List Str := (["TagError", "InvalidTags", "InvalidSubject", "InvalidEater", "InvalidText", "LETTERS", "MOST_LETTERS", "MOST_TAGS", "LONGEST_SUBJECT", "is_list", "is_name", "is_tag", "check_tags", "check_word", "NO_TAGS", "written", "read_word", "subject_text", "read_subject", "_law_mixed"] : List Str) ++ (["_law_pile", "_law_take", "_law_order", "_law_tags", "_law_word", "_law_standings", "_law_eaten", "_law_row_done", "_law_told", "_law_written", "_law_subject_due", "_law_text_due", "_law_bent"] : List Str)
theorem run (w : World) : HandSHeadRun.RunEq R (PySem.W.view R.prog [37]) hk ob 4000 names w := by
  intro os
  kernel_rfl
end Law
end

section
set_option Elab.async false
set_option linter.all false
set_option maxRecDepth 100000
set_option maxHeartbeats 0
namespace Law
open PySem PySem.W PySem.Calls PyProof.Rows
theorem hd1 : opening R.prog = plainProg R.prog.main.scope.names := by kernel_rfl
theorem hd2 (s : PySem.Shared) : fenceModules? R.prog s = some s := by kernel_rfl
theorem hd3 : defOf (view R.prog [37]) R.name = some (HandSHeadRun.topDef R.prog 37, []) := by kernel_rfl
theorem hd4 : R.prog.theDef R.name = some ((HandSHeadRun.topDef R.prog 37).params, (HandSHeadRun.topDef R.prog 37).body, (HandSHeadRun.topDef R.prog 37).scope) := by kernel_rfl
theorem hd5 : kwWritten? (HandSHeadRun.topDef R.prog 37).params.kwonlyargs (HandSHeadRun.topDef R.prog 37).params.kw_defaults = some [] := by kernel_rfl
theorem hd6 : (!R.writes || R.records.isEmpty) = true := by rfl
theorem hd7 : R.wellSaid = true := by decide +kernel
theorem hd8 : (chainsOk (view R.prog [37]) && opensWell R.prog && (frees R.toRowW && R.within.isEmpty)) = true := by decide +kernel
theorem hd9 : R.prog.bare := ⟨rfl, rfl, rfl, rfl, rfl, by decide +kernel⟩
theorem hd10 : (HandSHeadRun.topDef R.prog 37).name = ("law" : PySem.Str) := by kernel_rfl
theorem hd11 : (HandSHeadRun.topDef R.prog 37).params.defaults = [] := by kernel_rfl
end Law
end

section
set_option Elab.async false
set_option linter.all false
set_option maxRecDepth 100000
set_option maxHeartbeats 0
namespace Law
open PySem PySem.Spec PyProof.Rows L2 LamX QB QM
theorem law_at (w : World) (mg : Str → Option Value) (fa : Addr) (h : Heap) (Y : hk.says w h) (G : h.Ns mainGlobals mg) (hmg : mg ("law" : Str) = some (.ref fa)) :
    ∃ K : PySem.W.Frag, K.In h ∧ QT.LawG PySem.Challenge.rw_subjecttags_k60_subjects_as_text w K CX0 63 "script" mg fa h := by
  obtain ⟨K, KX, c⟩ := Y
  obtain ⟨X, e3⟩ := tx_mk KX G c.t.d c.more
  have e4 := hmg.symm.trans X.d_law.mg
  have e5 : fa = X.d_law.a := by
    injection e4 with e4
    injection e4
  subst e5
  have hb : ∀ (s : Shared) (u : Value), BindsTo s X.d_law.fd ⟨[u], []⟩ [("script", u)] := by
    obtain ⟨oc, od, kV, doc, pm, an, cdv, ct, osl, hf, _, _⟩ := X.d_law.F.ex
    intro s u
    rw [hf]
    exact .of_eq rfl
  exact ⟨K, KX, X.d_law.fd, [], spLaw K, (fun _ h => nomatch h), (fun _ h => nomatch h), (fun _ h => nomatch h), hb, fun H a ns _ _ hS => ⟨a, ns, rfl, hS, fun _ => rfl⟩, fun base _ _ _ => ok_law X ⟨rfl, by decide, by decide⟩⟩
end Law
open PySem PySem.W PySem.Calls PyProof.Rows
theorem k60_end : PySem.Challenge.rw_subjecttags_k60_subjects_as_text.Holds := by
  w_on; o_law
  refine HandSHeadRun.head_any (r := Law.R) (q := view Law.R.prog [37]) (H := Law.hk) (ob := Law.ob) (M := 4000) (loose := Law.names) (d := HandSHeadRun.topDef Law.R.prog 37) (kwd := []) Law.ob_eq
    Law.hd1 Law.hd2 Law.run Law.hd3 Law.hd4 Law.hd5 Law.hd6 Law.hd7 Law.hd8 Law.hd9 ?hw ?hc
  case hw => w_witness2
  case hc =>
    refine QT.walk_ofG (l := PySem.Challenge.rw_subjecttags_k60_subjects_as_text) (n := 63) (x := "script") (CX := fun _ => L2.CX0) rfl (by decide) Law.hd11 ?F (fun _ _ _ _ _ z => z)
    intro w mg fa h Y G hmg0
    rw [Law.hd10] at hmg0
    exact Law.law_at w mg fa h Y G hmg0
end

theorem PySem.Challenge.cw_subjecttags_k60_subjects_as_text_holds : PySem.Challenge.rw_subjecttags_k60_subjects_as_text.Holds := by
  exact k60_end

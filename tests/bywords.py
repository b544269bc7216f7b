"""A second reckoning of files and sessions by the words of points 18 to 20, 22 and 30 to 33."""


class ByWords:
    """A file as points 18 to 20 tell it, each question answered from the start."""

    def __init__(self, course, office, practice):
        self.course, self.office, self.practice = course, office, practice
        self.read_in_order, self.rows, self.paid, self.appealed = [], [], [], set()
        self.now, self.last = course.start, ()

    def stands(self, number):
        voids = [entry[0] for entry in self.read_in_order if entry[1] == "void" and entry[2] == number]
        return not any(self.stands(void) for void in voids)

    def rank(self, entry):
        return self.read_in_order.index(entry) if self.practice["stands"] == "come" else entry[0]

    def view(self, day):
        told = [entry for entry in self.read_in_order if self.stands(entry[0])]
        signs = [entry for entry in told if entry[1] == "sign" and entry[2] == day]
        rules = [entry for entry in told if entry[1] == "rule" and entry[2] <= day]
        latest = [entry for entry in rules if entry[2] == max(rule[2] for rule in rules)]
        sign = max(signs, key=self.rank)[3] if signs else self.course.signs[0]
        rule = max(latest, key=self.rank)[3] if latest else self.course.rules[0]
        return sign, rule

    def reckon(self, seat, rule, sign):
        due, behind = self.course.step(seat, rule, sign)
        return (sign, rule, seat, due if seat[0] == self.office else 0), behind

    def pass_day(self):
        sign, rule = self.view(len(self.rows))
        row, self.now = self.reckon(self.now, rule, sign)
        self.rows.append(row)
        self.paid.append(row[3])
        return row[3]

    def causes(self, before, behind):
        found = set()
        for day, row in enumerate(self.rows):
            back = len(self.rows) - day
            term = self.practice["term"]
            near = term is None or back <= term or day in self.appealed
            if before[day][0] != behind[day][0] and near:
                if self.practice["heeds"] == "all" or row[2][0] == self.office:
                    found.add(day)
            if before[day][1] != behind[day][1] and self.practice["amends"] == "back":
                found.add(day)
        return found

    def read(self, entry):
        self.last = ()
        if entry in self.read_in_order:
            return []
        before = [self.view(day) for day in range(len(self.rows))]
        self.read_in_order.append(entry)
        causes = self.causes(before, [self.view(day) for day in range(len(self.rows))])
        again, behind, pairs, old = self.practice["again"], {}, [], list(self.rows)
        for day in range(len(old)):
            within = again is None or any(cause <= day < cause + again for cause in causes)
            goes_on = day - 1 in behind and behind[day - 1] != old[day][2]
            if day not in causes and not (goes_on and within):
                continue
            sign, rule = self.view(day)
            if self.practice["amends"] == "ahead":
                rule = old[day][1]
            self.rows[day], behind[day] = self.reckon(behind.get(day - 1, old[day][2]), rule, sign)
            pairs.extend(self.book(day))
        self.now = behind.get(len(old) - 1, self.now)
        self.last = tuple(sorted(behind))
        return pairs

    def book(self, day):
        difference, back = self.rows[day][3] - self.paid[day], len(self.rows) - day
        mark = self.practice["pays" if difference > 0 else "asks"]
        if difference == 0 or (mark is not None and back > mark):
            return []
        self.paid[day] += difference
        return [(day, difference)]

    def appeal(self, day):
        if self.practice["term"] is not None and len(self.rows) - day > self.practice["term"]:
            return False
        self.appealed.add(day)
        return True


class PurseByWords:
    """A purse as point 22 tells it."""

    def __init__(self, purse):
        self.unit, self.rest, self.cap, self.held_mark = purse.unit, purse.rest, purse.cap, purse.held_mark
        self.due, self.waits, self.paid, self.held = 0, 0, 0, False

    def book(self, amount):
        if not self.held:
            self.due += amount
        elif amount < 0 or self.held_mark == "keep":
            self.waits += amount

    def free(self):
        self.held, self.due, self.waits = False, self.due + self.waits, 0

    def run(self):
        if self.held:
            return 0
        if self.due < 0:
            paid = self.due if self.cap is None else max(self.due, -self.cap)
            self.due -= paid
        else:
            paid = self.due // self.unit * self.unit
            self.due = 0 if self.rest == "drop" else self.due - paid
        self.paid += paid
        return paid

    def close(self):
        self.free()
        paid, self.due = self.due, 0
        self.paid += paid
        return paid


class SessionByWords:
    """A session as points 30 to 33 tell it; it does only what is not refused."""

    def __init__(self, house):
        self.house, self.days, self.told, self.letters = house, 0, [], []
        offices = house.course.offices
        self.files = {office: ByWords(house.course, office, house.practice(office)) for office in offices}
        self.purses = {office: PurseByWords(house.purse(office)) for office in offices}

    def do(self, event):
        word, *rest = event
        if word in ("tell", "amend", "void"):
            entry = (len(self.told) + 1, {"tell": "sign", "amend": "rule", "void": "void"}[word], *rest[1:])
            self.told.append(entry)
            return self.learn(rest[0], entry)
        if word == "read":
            _, reader, entry = self.letters.pop(rest[0])
            return [] if entry in self.files[reader].read_in_order else self.learn(reader, entry)
        if word == "day":
            happened = []
            for office, file in self.files.items():
                happened += self.book(office, self.days, file.pass_day())
            self.days += 1
            return happened
        if word == "close":
            happened = self.settle()
            for office, purse in self.purses.items():
                happened += self.pay(office, purse.close())
            return happened
        if word == "appeal":
            self.files[rest[0]].appeal(rest[1])
        elif word == "hold":
            self.purses[rest[0]].held = True
        elif word == "free":
            self.purses[rest[0]].free()
        else:
            return self.pay(rest[0], self.purses[rest[0]].run())
        return []

    def learn(self, office, entry):
        happened = []
        for day, amount in self.files[office].read(entry):
            happened += self.book(office, day, amount)
        for writer, reader in sorted(self.house.ways()):
            if writer == office:
                self.letters.append((writer, reader, entry))
                happened.append(("letter", writer, reader, entry[0]))
        return happened

    def book(self, office, day, amount):
        self.purses[office].book(amount)
        return [("book", office, day, amount)] if amount else []

    def pay(self, office, amount):
        return [("pay", office, amount)] if amount else []

    def settle(self):
        happened = []
        while self.letters:
            happened += self.do(("read", 0))
        return happened

    def stands(self, number):
        voids = [entry[0] for entry in self.told if entry[1] == "void" and entry[2] == number]
        return not any(self.stands(void) for void in voids)

    def true_turn(self, day):
        """The rule and the sign of the day by all entries told."""
        signs, rules = [self.house.course.signs[0]], [(-1, 0, self.house.course.rules[0])]
        for number, form, *rest in self.told:
            if self.stands(number) and form == "sign" and rest[0] == day:
                signs.append(rest[1])
            if self.stands(number) and form == "rule" and rest[0] <= day:
                rules.append((rest[0], number, rest[1]))
        return max(rules)[2], signs[-1]

    def wrong(self):
        rows, seat = [], self.house.course.start
        for day in range(self.days):
            due, behind = self.house.course.step(seat, *self.true_turn(day))
            for office, file in self.files.items():
                own = due if seat[0] == office else 0
                if file.paid[day] != own:
                    rows.append((office, day, file.paid[day], own))
            seat = behind
        order = list(self.files)
        return sorted(rows, key=lambda row: (order.index(row[0]), row[1]))

"""Run each file test_*.py of the project and of ../shared/tests by itself, and tell how many tests ran."""

import os
import re
import subprocess
import sys
from concurrent.futures import ThreadPoolExecutor

ROOT = os.path.dirname(os.path.dirname(os.path.abspath(__file__)))
FOLDERS = (os.path.join(ROOT, "tests"), os.path.join(os.path.dirname(ROOT), "shared", "tests"))


def test_files():
    """Return the paths of all test files, in ascending order by folder."""
    found = []
    for folder in FOLDERS:
        for place, folders, names in os.walk(folder):
            folders.sort()
            found.extend(os.path.join(place, name) for name in sorted(names)
                         if name.startswith("test_") and name.endswith(".py"))
    return found


def run_file(path):
    """Run one file in its own folder, so that files of the same name do not meet; return what it told."""
    folder, name = os.path.split(path)
    paths = [ROOT] + [one for one in (os.environ.get("PYTHONPATH"),) if one]
    environment = dict(os.environ, PYTHONPATH=os.pathsep.join(paths))
    done = subprocess.run([sys.executable, "-m", "unittest", name[:-len(".py")]], cwd=folder, env=environment,
                          stdin=subprocess.DEVNULL, stdout=subprocess.PIPE, stderr=subprocess.STDOUT, text=True)
    return done.returncode, done.stdout


def count_of(pattern, text):
    """Return the number that the last match of a pattern tells, 0 for none."""
    found = re.findall(pattern, text, re.MULTILINE)
    return int(found[-1]) if found else 0


def main():
    """Run all files and return the exit code."""
    paths = test_files()
    ran = bad = 0
    with ThreadPoolExecutor(max_workers=os.cpu_count() or 1) as pool:
        for path, (code, text) in zip(paths, pool.map(run_file, paths)):
            many = count_of(r"^Ran (\d+) tests? in", text)
            wrong = 0
            if code != 0:
                # A file that could not be run to its end is one failure at least.
                told = [count_of(word + r"=(\d+)", text) for word in ("[( ]failures", "errors", "unexpected successes")]
                wrong = max(sum(told), 1)
                print(text)
            print(f"{os.path.relpath(path, ROOT)}: {many} tests ran, {wrong} failed", flush=True)
            ran += many
            bad += wrong
    print(f"{ran} tests ran")
    print(f"{max(ran - bad, 0)} passed, {bad} failed")
    return 0 if ran > 0 and bad == 0 else 1


if __name__ == "__main__":
    sys.exit(main())
